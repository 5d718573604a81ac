"""Formulas for the tests, and plain ways of finding what the program must return for them."""

import itertools
import random

from automatics.formula import free
from automatics.knownseq import (
    block_count, digit_sum, paper_folding, powers, repeating, residues, rudin_shapiro, thue_morse)
from automatics.sequence import Sequence
from tests.helpers import residue_rows

SEQUENCES = {"T": thue_morse(), "S": rudin_shapiro(), "A": paper_folding()}


def plain_term(variables, constant=0):
    """A term, written out."""
    return ("sum", tuple(sorted(variables)), constant)


def random_term(source, variables):
    """A term of some of the variables."""
    chosen = [source.choice(variables) for _ in range(source.choice((0, 1, 1, 1, 2, 3, 4)))]
    constant = source.choice((0, 0, 0, 1, 2, 5, 9, 10, 99, 100, 999, 1000))
    return plain_term(chosen, constant)


def random_formula(source, deepest, variables="abc"):
    """A formula that is nested at most so deep."""
    kinds = ["true", "=", "<", "is", "same"]
    if deepest > 0:
        kinds = ["=", "<", "is", "same"] + 3 * ["not", "and", "or", "some", "all"]
    kind = source.choice(kinds)
    terms = [random_term(source, variables) for _ in range(2)]
    names = [source.choice(sorted(SEQUENCES)) for _ in range(2)]
    if kind in ("not", "and", "or"):
        return (kind,) + tuple(
            random_formula(source, deepest - 1, variables) for _ in range(1 if kind == "not" else 2))
    return {
        "true": lambda: ("true",),
        "=": lambda: ("=", *terms),
        "<": lambda: ("<", *terms),
        "is": lambda: ("is", names[0], terms[0], source.randrange(10)),
        "same": lambda: ("same", names[0], terms[0], names[1], terms[1]),
        "some": lambda: ("some", source.choice(variables), random_formula(source, deepest - 1, variables)),
        "all": lambda: ("all", source.choice(variables), random_formula(source, deepest - 1, variables)),
    }[kind]()


def drawn_formulas(seed, count, deepest=4, variables="abc"):
    """Some drawn formulas."""
    source = random.Random(seed)
    return [random_formula(source, deepest, variables) for _ in range(count)]


def nested(kind, times, inner=("true",)):
    """A formula of one kind nested so many times."""
    for _ in range(times):
        inner = {
            "not": ("not", inner), "and": ("and", inner, ("true",)), "or": ("or", ("true",), inner),
            "some": ("some", "x", inner), "all": ("all", "x", inner)}[kind]
    return inner


# Sequences of each base for formulas that look members up.
SEQUENCES_BY_BASE = {
    2: SEQUENCES,
    3: {"T": digit_sum(3, 3), "S": powers(3), "A": repeating(3, (1, 0), (0, 1, 2))},
    4: {"T": digit_sum(4, 2), "S": block_count(4, (1, 0), 2), "A": residues(4, 3)},
}


def small_term(source, variables):
    """A term with a small value for small numbers."""
    chosen = [source.choice(variables) for _ in range(source.choice((0, 1, 1, 1, 2)))]
    return plain_term(chosen, source.choice((0, 0, 0, 1, 2, 3)))


def guarded_formula(source, deepest, variables="abc"):
    """A formula whose "some" and "all" are about numbers below a small term, so that trying these is enough."""
    kinds = ["=", "<", "is", "same", "true"]
    if deepest > 0:
        kinds = ["=", "<", "is", "same"] + 2 * ["not", "and", "or", "some", "all"]
    kind = source.choice(kinds)
    terms = [small_term(source, variables) for _ in range(2)]
    names = [source.choice("AST") for _ in range(2)]
    if kind in ("=", "<"):
        return (kind, *terms)
    if kind == "is":
        return ("is", names[0], terms[0], source.randrange(3))
    if kind == "same":
        return ("same", names[0], terms[0], names[1], terms[1])
    if kind in ("some", "all"):
        variable = source.choice(variables)
        others = [other for other in variables if other != variable]
        guard = ("<", plain_term(variable), small_term(source, others))
        inner = guarded_formula(source, deepest - 1, variables)
        if kind == "some":
            return ("some", variable, ("and", guard, inner))
        return ("all", variable, ("or", ("not", guard), inner))
    if kind == "true":
        return (kind,)
    return (kind,) + tuple(
        guarded_formula(source, deepest - 1, variables) for _ in range(1 if kind == "not" else 2))


def rows_of_values(formula, most):
    """All dicts from the free variables of a formula to numbers below most."""
    variables = free(formula)
    return [dict(zip(variables, numbers)) for numbers in itertools.product(range(most), repeat=len(variables))]


def long_sequence(base, size):
    """A sequence with so many states, of which each is reached and none is alike another one if the base allows it."""
    return Sequence(base, residue_rows(base, size), [1 if state == 0 else 0 for state in range(size)])
