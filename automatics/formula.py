"""Terms and formulas."""

from automatics.errors import Captured, TooGreat
from automatics.integers import in_bounds
from automatics.tables import is_output

GREATEST_CONSTANT = 1000
MOST_VARIABLES = 4
DEEPEST = 12
LETTERS = "abcdefghijklmnopqrstuvwxyz"
QUANTIFIERS = ("some", "all")

# What stands behind the word of each kind of formula.
SHAPES = {
    "true": (),
    "=": ("term", "term"),
    "<": ("term", "term"),
    "is": ("name", "term", "output"),
    "same": ("name", "term", "name", "term"),
    "not": ("formula",),
    "and": ("formula", "formula"),
    "or": ("formula", "formula"),
    "some": ("variable", "formula"),
    "all": ("variable", "formula"),
}


def is_term(value):
    """Returns whether a value of any kind is a term."""
    if not isinstance(value, tuple) or len(value) != 3:
        return False
    word, variables, constant = value
    if not isinstance(word, str) or word != "sum" or not in_bounds(constant, 0, GREATEST_CONSTANT):
        return False
    if not isinstance(variables, tuple) or len(variables) > MOST_VARIABLES:
        return False
    return all([is_variable(item) for item in variables]) and list(variables) == sorted(variables)


def is_formula(value):
    """Returns whether a value of any kind is a formula that is nested at most 12 deep."""
    return is_nested(value, DEEPEST)


def is_nested(value, deepest):
    """Returns whether a value of any kind is a formula that is nested at most so deep."""
    # A list of what is left to look at does with any depth, which calls would not.
    pending = [(value, deepest)]
    while len(pending) > 0:
        inner, left = pending.pop()
        if not _has_shape(inner, left):
            return False
        pending.extend([(part, left - 1) for part in parts(inner, "formula")])
    return True


def is_variable(value):
    """Returns whether a value of any kind is a variable."""
    return is_letter(value, "a", "z")


def parts(formula, kind):
    """Returns the list of those items of a formula that are of a kind that SHAPES names."""
    shape = SHAPES[formula[0]]
    return [item for item, other in zip(formula[1:], shape) if other == kind]


def depth(formula):
    """Returns how deep formulas are nested in a formula."""
    return max([depth(part) + 1 for part in parts(formula, "formula")], default=0)


def free(formula):
    """Returns the list of the free variables in ascending order."""
    found = [variable for part in parts(formula, "term") for variable in part[1]]
    for part in parts(formula, "formula"):
        found.extend(free(part))
    bound = parts(formula, "variable")
    return sorted({variable for variable in found if variable not in bound})


def names(formula):
    """Returns the list of the sequence names in ascending order."""
    found = parts(formula, "name")
    for part in parts(formula, "formula"):
        found.extend(names(part))
    return sorted(set(found))


def term(variables, constant):
    """Returns the term with the variables of a string, in any order."""
    return "sum", tuple(sorted(variables)), constant


def implies(p, q):
    """Returns the formula that says: if p, then q."""
    return "or", ("not", p), q


def both_ways(p, q):
    """Returns the formula that says: p exactly if q."""
    return "and", implies(p, q), implies(q, p)


def renamed(formula, old, new):
    """Returns the formula with another variable in the place of a free one."""
    if formula[0] in QUANTIFIERS and formula[1] == old:
        return formula
    if formula[0] in QUANTIFIERS and formula[1] == new and old in free(formula):
        raise Captured("the new variable would be bound")
    return _rebuilt(
        formula,
        lambda item: _renamed_term(item, old, new),
        lambda part: renamed(part, old, new))


def put(formula, variable, constant):
    """Returns the formula with a constant in the place of a free variable."""
    if formula[0] in QUANTIFIERS and formula[1] == variable:
        return formula
    return _rebuilt(
        formula,
        lambda item: _put_term(item, variable, constant),
        lambda part: put(part, variable, constant))


def balance(comparison):
    """Returns (variables, factors, constant) of the first term of a comparison less the second one."""
    first, second = comparison[1:]
    factors = {}
    for variable in first[1]:
        factors[variable] = factors.get(variable, 0) + 1
    for variable in second[1]:
        factors[variable] = factors.get(variable, 0) - 1
    variables = sorted(factors)
    return variables, tuple([factors[variable] for variable in variables]), first[2] - second[2]


def is_letter(value, first, last):
    """Returns whether a value of any kind is one letter from the first to the last one."""
    return isinstance(value, str) and len(value) == 1 and first <= value <= last


def _has_shape(value, deepest):
    """Returns whether a value is a formula, but for the formulas within it, of which there are none at the depth 0."""
    if not isinstance(value, tuple) or len(value) == 0:
        return False
    if not isinstance(value[0], str) or value[0] not in SHAPES:
        return False
    shape = SHAPES[value[0]]
    if len(value) != len(shape) + 1 or "formula" in shape and deepest == 0:
        return False
    return all([_is_item(item, kind) for item, kind in zip(value[1:], shape)])


def _is_item(value, kind):
    if kind == "term":
        return is_term(value)
    if kind == "name":
        return is_letter(value, "A", "Z")
    if kind == "variable":
        return is_variable(value)
    return kind == "formula" or is_output(value)


def _rebuilt(formula, on_term, on_formula):
    """Returns the formula made from what two functions return for its terms and for the formulas within it."""
    items = [formula[0]]
    for item, kind in zip(formula[1:], SHAPES[formula[0]]):
        if kind == "term":
            items.append(on_term(item))
        elif kind == "formula":
            items.append(on_formula(item))
        else:
            items.append(item)
    return tuple(items)


def _renamed_term(value, old, new):
    return term([new if variable == old else variable for variable in value[1]], value[2])


def _put_term(value, variable, constant):
    others = [other for other in value[1] if other != variable]
    total = value[2] + constant * (len(value[1]) - len(others))
    if total > GREATEST_CONSTANT:
        raise TooGreat("a constant would be above 1000")
    return term(others, total)
