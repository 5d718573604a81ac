"""Automata that reckon."""

from automatics.automaton import (
    Automaton, MOST_STATES, MOST_TRACKS, check_base, letter_count, letter_number, letters,
)
from automatics.digits import digits_of
from automatics.errors import BadAutomaton
from automatics.explore import explored
from automatics.integers import all_in_bounds, in_bounds
from automatics.least import least

GREATEST_FACTOR = 20
GREATEST_SHIFT = 1000
GREATEST_CONSTANT = 10 ** 9
GREATEST_MODULUS = 500


def linear(base, factors, constant, sign):
    """Returns the automaton of the rows whose sum of factor times number, plus the constant, is 0 or less than 0."""
    check_base(base)
    _check_linear(factors, constant, sign)
    return least(weighing(base, factors, constant, sign)[0])


def weighing(base, factors, constant, sign):
    """Returns (automaton, values, bounds): its states tell the sum of factor times the number read so far.

    The values are these sums. Beyond the bounds a sum can never come back:
    there it is kept as one of the pair (below, above), which lie just beyond.
    """
    sums = [_weighed(factors, letter) for letter in letters(base, len(factors))]
    above = max(-sum([factor for factor in factors if factor < 0]), -constant) + 1
    below = min(-sum([factor for factor in factors if factor > 0]), -constant) - 1
    rows, values = explored(
        0, lambda value: [max(below, min(above, base * value + weight)) for weight in sums], MOST_STATES)
    if sign == "=":
        accepting = [at for at, value in enumerate(values) if value + constant == 0]
    else:
        accepting = [at for at, value in enumerate(values) if value + constant < 0]
    return Automaton(base, len(factors), rows, accepting), values, (below, above)


def equal(base):
    """Returns the automaton of the pairs (x, y) with x = y."""
    return linear(base, (1, -1), 0, "=")


def less(base):
    """Returns the automaton of the pairs (x, y) with x < y."""
    return linear(base, (1, -1), 0, "<")


def total(base):
    """Returns the automaton of the triples (x, y, z) with x + y = z."""
    return linear(base, (1, 1, -1), 0, "=")


def constant(base, c):
    """Returns the automaton of one number."""
    check_base(base)
    if not in_bounds(c, 0, GREATEST_CONSTANT):
        raise BadAutomaton("the number is not an integer from 0 to 1000000000")
    digits = digits_of(c, base)
    end = len(digits)
    rows = [[end + 1] * base for _ in range(end + 2)]
    rows[0][0] = 0
    for at, digit in enumerate(digits):
        rows[at][digit] = at + 1
    return least(Automaton(base, 1, rows, [end]))


def multiple(base, modulus, rest):
    """Returns the automaton of the numbers that leave a rest by a modulus."""
    check_base(base)
    if not in_bounds(modulus, 1, GREATEST_MODULUS):
        raise BadAutomaton("the modulus is not an integer from 1 to 500")
    if not in_bounds(rest, 0, modulus - 1):
        raise BadAutomaton("the rest is not an integer from 0 to the modulus - 1")
    rows = [[(base * left + digit) % modulus for digit in range(base)] for left in range(modulus)]
    return least(Automaton(base, 1, rows, [rest]))


def power(base):
    """Returns the automaton of the powers of the base."""
    check_base(base)
    rows = [[2] * base for _ in range(3)]
    rows[0][0] = 0
    rows[0][1] = 1
    rows[1][0] = 1
    return least(Automaton(base, 1, rows, [1]))


def top_power(base):
    """Returns the automaton of the pairs of a number from 1 on and the greatest power of the base that divides it."""
    check_base(base)
    # In state 0 the second number has not begun, in state 1 both may only go on with zeros.
    count = letter_count(base, 2)
    rows = [[2] * count for _ in range(3)]
    rows[1][0] = 1
    for digit in range(base):
        rows[0][letter_number(base, (digit, 0))] = 0
    for digit in range(1, base):
        rows[0][letter_number(base, (digit, 1))] = 1
    return least(Automaton(base, 2, rows, [1]))


def _check_linear(factors, shift, sign):
    if not isinstance(factors, tuple) or len(factors) > MOST_TRACKS:
        raise BadAutomaton("the factors are not a tuple of at most 5")
    if not all_in_bounds(factors, -GREATEST_FACTOR, GREATEST_FACTOR):
        raise BadAutomaton("a factor is not an integer from -20 to 20")
    if not in_bounds(shift, -GREATEST_SHIFT, GREATEST_SHIFT):
        raise BadAutomaton("the constant is not an integer from -1000 to 1000")
    if sign not in ("=", "<"):
        raise BadAutomaton("the sign is neither = nor <")


def _weighed(factors, letter):
    return sum([factor * digit for factor, digit in zip(factors, letter)])
