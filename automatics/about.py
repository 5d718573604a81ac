"""Formulas that say what the blocks of a sequence are like."""

from automatics.formula import term


def equal_blocks(name, i, j, n):
    """Returns the formula: the blocks at i and j with the length n are the same."""
    return _agreeing("u", ("<", term("u", 0), term(n, 0)), name, i, j)


def square(name, i, p):
    """Returns the formula: the block at i with the length p, which is not 0, is followed by the same block."""
    return "and", _positive(p), _agreeing("u", ("<", term("u", 0), term(p, 0)), name, i, i + p)


def mirrored(name, i, n):
    """Returns the formula: the block at i with the length n is the same if it is read from behind."""
    ends = ("=", term("uv", 1), term(n, 0))
    return "all", "u", ("all", "v", _if(ends, _same(name, i + "u", i + "v")))


def first_place(name, i, n):
    """Returns the formula: no earlier block of the length n is the same as that at i."""
    return "all", "s", _if(("<", term("s", 0), term(i, 0)), ("not", equal_blocks(name, "s", i, n)))


def comes_again(name, i, n):
    """Returns the formula: the block at i with the length n stands at a later place, too."""
    return "some", "s", ("and", ("<", term(i, 0), term("s", 0)), equal_blocks(name, "s", i, n))


def rare_after(name, i, n, p):
    """Returns the formula: the block at i with the length n does not stand at the p places behind i."""
    near = ("and", ("<", term(i, 0), term("s", 0)), ("<", term("s", 0), term(i + p, 1)))
    return "all", "s", _if(near, ("not", equal_blocks(name, "s", i, n)))


def periodic_from(name, i, p):
    """Returns the formula: from i on the members come again after p, which is not 0."""
    return "and", _positive(p), ("all", "u", _same(name, i + "u", i + p + "u"))


def is_periodic(name):
    """Returns the sentence: from some place on the members come again."""
    return "some", "s", ("some", "t", periodic_from(name, "s", "t"))


def is_recurrent(name):
    """Returns the sentence: each block comes again."""
    return "all", "a", ("all", "b", comes_again(name, "a", "b"))


def has_square(name):
    """Returns the sentence: some block is followed by the same block."""
    return "some", "a", ("some", "b", square(name, "a", "b"))


def has_overlap(name):
    """Returns the sentence: some square is followed by its first member."""
    longer = ("<", term("u", 0), term("b", 1))
    return "some", "a", ("some", "b", ("and", _positive("b"), _agreeing("u", longer, name, "a", "ab")))


def _positive(p):
    return "<", term("", 0), term(p, 0)


def _if(condition, formula):
    return "or", ("not", condition), formula


def _same(name, variables, others):
    return "same", name, term(variables, 0), name, term(others, 0)


def _agreeing(u, condition, name, i, j):
    """Returns the formula: for all u for which a condition holds, the members u places behind i and j are the same."""
    return "all", u, _if(condition, _same(name, i + u, j + u))
