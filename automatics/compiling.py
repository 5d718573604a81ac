"""From formulas to automata."""

from automatics.automaton import MOST_TRACKS
from automatics.combine import everything, opposite
from automatics.errors import BadValues, OtherBase, TooWide
from automatics.formula import LETTERS, balance, free, names, parts, term
from automatics.formulatext import formula_text
from automatics.least import least
from automatics.project import left_out, looked
from automatics.steps import compared, joined, members_agree


class Compiler:
    """A base and sequences for which formulas are compiled, and the automata that were found."""

    def __init__(self, base, sequences):
        self.base = base
        self.sequences = sequences
        self.found = {}

    def automaton(self, formula):
        """Returns the least automaton of a formula."""
        # A tuple that is nested so deep is no key of a dict, but its text is one.
        key = formula_text(formula)
        if key not in self.found:
            self.found[key] = self.stepped(formula)
        return self.found[key]

    def stepped(self, formula):
        """Returns the least automaton of a formula, made from those of its parts."""
        kind = formula[0]
        instead = spelled(formula)
        if instead is not None:
            return self.automaton(instead)
        if kind == "true":
            return everything(self.base, 0)
        if kind in ("=", "<"):
            _, factors, constant = balance(formula)
            return least(compared(self.base, kind, factors, constant)[0])
        if kind == "is":
            return looked(self.sequences[formula[1]], formula[3])
        if kind == "same":
            first, second = self.sequences[formula[1]], self.sequences[formula[3]]
            return least(members_agree(first, second, places_of(formula))[0])
        if kind == "not":
            return opposite(self.automaton(formula[1]))
        if kind == "some":
            return self.without_variable(formula)
        first, second = self.automaton(formula[1]), self.automaton(formula[2])
        return least(joined(kind, len(free(formula)), first, second, joined_places(formula))[0])

    def without_variable(self, formula):
        """Returns the least automaton of a "some"."""
        _, variable, inner = formula
        automaton = self.automaton(inner)
        variables = free(inner)
        return left_out(automaton, variables.index(variable)) if variable in variables else automaton


def compiled(formula, base, sequences):
    """Returns the least automaton of the rows of values of the free variables for which a formula holds."""
    check_formula(formula, base, sequences)
    return Compiler(base, sequences).automaton(formula)


def check_formula(formula, base, sequences):
    """Raises BadValues, OtherBase or TooWide if a formula cannot be compiled."""
    found = names(formula)
    if not all([name in sequences for name in found]):
        raise BadValues("a name stands for no sequence")
    if not all([sequences[name].base == base for name in found]):
        raise OtherBase("a sequence has another base")
    if _widest(formula) > MOST_TRACKS:
        raise TooWide("a formula on the way has more than 5 free variables")


def spelled(formula):
    """Returns a formula of simpler ones with the same meaning for an "all" and for some atoms, otherwise None."""
    kind = formula[0]
    if kind == "all":
        return "not", ("some", formula[1], ("not", formula[2]))
    if kind == "is" and not _is_plain(formula[2]):
        _, name, index, output = formula
        return _found_at(formula, index, lambda place: ("is", name, place, output))
    if kind == "same" and not _is_plain(formula[2]):
        _, name, index, other, second = formula
        return _found_at(formula, index, lambda place: ("same", name, place, other, second))
    if kind == "same" and not _is_plain(formula[4]):
        _, name, first, other, index = formula
        return _found_at(formula, index, lambda place: ("same", name, first, other, place))
    return None


def places_of(atom):
    """Returns the tracks of the variables of both terms of a "same", which are one variable each."""
    variables = free(atom)
    return variables.index(atom[2][1][0]), variables.index(atom[4][1][0])


def joined_places(formula):
    """Returns for both parts of an "and" or "or" the tuple of the tracks of its variables."""
    variables = free(formula)
    return tuple([tuple([variables.index(variable) for variable in free(part)]) for part in formula[1:]])


def _is_plain(index):
    """Returns whether a term is just one variable."""
    return len(index[1]) == 1 and index[2] == 0


def _found_at(atom, index, made):
    """Returns the formula that says that something holds for a new variable, which is equal to a term of an atom."""
    variables = free(atom)
    variable = [letter for letter in LETTERS if letter not in variables][0]
    place = term(variable, 0)
    return "some", variable, ("and", ("=", place, index), made(place))


def _widest(formula):
    """Returns how many free variables a formula, or one that comes up on the way, has at most."""
    instead = spelled(formula)
    inner = parts(formula, "formula") if instead is None else [instead]
    return max([len(free(formula))] + [_widest(part) for part in inner])
