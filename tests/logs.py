"""Logs for the tests, and logs that are changed in one place."""

from automatics.automaton import letters
from automatics.knownseq import powers, rudin_shapiro, thue_morse
from automatics.log import log_of
from automatics.formulatext import formula_of

# P has another base.
WORLD = {"T": thue_morse(), "S": rudin_shapiro(), "P": powers(3)}

RULE, PARTS, VARIABLES, FORMULA, ROWS, ACCEPTING, SHOWN = range(7)

# Together their logs have all rules, "some" with and without its variable.
TEXTS = (
    "true", "!(a < b)", "(T[a] = @1 | T[a] = S[b])", "some x (a = x + x)", "some x (a < 2)", "all x (T[x + 1] = @0)",
    "some n ((n < a & T[a + n] = T[b]))", "(0 < 1 & T[0] = S[3])")


def logs(base=2):
    """The logs of the formulas with these texts."""
    return [(formula_of(text), log_of(formula_of(text), base, WORLD)) for text in TEXTS]


def changed(items, at, value):
    """A tuple with another item."""
    return items[:at] + (value,) + items[at + 1:]


def without_item(items, at):
    """A tuple without one of its items."""
    return items[:at] + items[at + 1:]


def changes_within(value, replaced):
    """All values in which one item, at any depth, is replaced by one that a function returns for it."""
    for other in replaced(value):
        yield other
    if isinstance(value, tuple):
        for at, item in enumerate(value):
            for other in changes_within(item, replaced):
                yield changed(value, at, other)


def comparison_entry(formula, variables, factors, constant, low, high, base=2):
    """An entry "compare" in which the values from low to high stand, and "over" or "under" for others."""
    def shown(value):
        return value if low <= value <= high else "over" if value > high else "under"
    found = [0]
    rows = []
    for value in found:
        row = []
        for letter in letters(base, len(factors)):
            target = value
            if value not in ("over", "under"):
                target = shown(base * value + sum(factor * digit for factor, digit in zip(factors, letter)))
            if target not in found:
                found.append(target)
            row.append(found.index(target))
        rows.append(tuple(row))
    accepting = []
    for at, value in enumerate(found):
        if value == "under":
            told = formula[0] == "<"
        elif value == "over":
            told = False
        else:
            told = value + constant == 0 if formula[0] == "=" else value + constant < 0
        if told:
            accepting.append(at)
    return ("compare", (), tuple(variables), formula, tuple(rows), tuple(accepting), tuple(found))
