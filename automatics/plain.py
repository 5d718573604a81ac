"""The truth of formulas, found by trying numbers."""

from automatics.errors import BadValues
from automatics.formula import free, names
from automatics.integers import is_number


class Trial:
    """The sequences and the bound with which formulas are tried, and the members that were looked up."""

    def __init__(self, sequences, bound):
        self.sequences = sequences
        self.bound = bound
        self.kept = {}

    def holds(self, formula, values):
        """Returns whether a formula holds if its free variables have these values."""
        kind = formula[0]
        if kind in ("some", "all"):
            return self.tried(formula, values)
        if kind == "not":
            return not self.holds(formula[1], values)
        if kind == "and":
            return self.holds(formula[1], values) and self.holds(formula[2], values)
        if kind == "or":
            return self.holds(formula[1], values) or self.holds(formula[2], values)
        if kind == "=":
            return _sum(formula[1], values) == _sum(formula[2], values)
        if kind == "<":
            return _sum(formula[1], values) < _sum(formula[2], values)
        if kind == "is":
            return self.member(formula[1], _sum(formula[2], values)) == formula[3]
        if kind == "same":
            first = self.member(formula[1], _sum(formula[2], values))
            return first == self.member(formula[3], _sum(formula[4], values))
        return True

    def tried(self, formula, values):
        """Returns whether a "some" or an "all" holds for the numbers below the bound."""
        kind, variable, inner = formula
        # One number for which it holds decides a "some", and one for which it does not hold an "all".
        deciding = kind == "some"
        extended = dict(values)
        for number in range(self.bound):
            extended[variable] = number
            if self.holds(inner, extended) == deciding:
                return deciding
        return not deciding

    def member(self, name, number):
        """Returns the member of a sequence with this number."""
        key = (name, number)
        if key not in self.kept:
            self.kept[key] = self.sequences[name].at(number)
        return self.kept[key]


def value_of(term, values):
    """Returns the value of a term for the values of its variables."""
    _check_values(term[1], values)
    return _sum(term, values)


def holds_below(formula, values, sequences, bound):
    """Returns whether a formula holds if "some" and "all" go through the numbers below a bound only."""
    _check_values(free(formula), values)
    for name in names(formula):
        if name not in sequences:
            raise BadValues("a name stands for no sequence")
    return Trial(sequences, bound).holds(formula, values)


def _check_values(variables, values):
    if not all([is_number(value) for value in values.values()]):
        raise BadValues("a value is not a number")
    if not all([variable in values for variable in variables]):
        raise BadValues("a variable has no value")


def _sum(term, values):
    total = term[2]
    for variable in term[1]:
        total += values[variable]
    return total
