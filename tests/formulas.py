"""Formulas for the tests, and plain ways of finding what the program must return for them."""

import random

from automatics.knownseq import paper_folding, rudin_shapiro, thue_morse

SEQUENCES = {"T": thue_morse(), "S": rudin_shapiro(), "A": paper_folding()}


def plain_term(variables, constant=0):
    """A term, written out."""
    return ("sum", tuple(sorted(variables)), constant)


def random_term(source, variables):
    """A term of some of the variables."""
    chosen = [source.choice(variables) for _ in range(source.choice((0, 1, 1, 1, 2, 3, 4)))]
    constant = source.choice((0, 0, 0, 1, 2, 5, 9, 10, 99, 100, 999, 1000))
    return plain_term(chosen, constant)


def random_formula(source, deepest, variables="abc"):
    """A formula that is nested at most so deep."""
    kinds = ["true", "=", "<", "is", "same"]
    if deepest > 0:
        kinds = ["=", "<", "is", "same"] + 3 * ["not", "and", "or", "some", "all"]
    kind = source.choice(kinds)
    terms = [random_term(source, variables) for _ in range(2)]
    names = [source.choice(sorted(SEQUENCES)) for _ in range(2)]
    if kind in ("not", "and", "or"):
        return (kind,) + tuple(
            random_formula(source, deepest - 1, variables) for _ in range(1 if kind == "not" else 2))
    return {
        "true": lambda: ("true",),
        "=": lambda: ("=", *terms),
        "<": lambda: ("<", *terms),
        "is": lambda: ("is", names[0], terms[0], source.randrange(10)),
        "same": lambda: ("same", names[0], terms[0], names[1], terms[1]),
        "some": lambda: ("some", source.choice(variables), random_formula(source, deepest - 1, variables)),
        "all": lambda: ("all", source.choice(variables), random_formula(source, deepest - 1, variables)),
    }[kind]()


def drawn_formulas(seed, count, deepest=4, variables="abc"):
    """Some drawn formulas."""
    source = random.Random(seed)
    return [random_formula(source, deepest, variables) for _ in range(count)]


def nested(kind, times, inner=("true",)):
    """A formula of one kind nested so many times."""
    for _ in range(times):
        inner = {
            "not": ("not", inner), "and": ("and", inner, ("true",)), "or": ("or", ("true",), inner),
            "some": ("some", "x", inner), "all": ("all", "x", inner)}[kind]
    return inner
