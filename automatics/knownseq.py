"""Known sequences."""

from automatics.errors import BadSequence
from automatics.explore import explored
from automatics.integers import all_in_bounds, in_bounds, is_base
from automatics.made import shifted
from automatics.sequence import MOST_STATES, Sequence, least_sequence
from automatics.tables import are_outputs

GREATEST_MODULUS = 10
LONGEST_BLOCK = 4
LONGEST_PART = 20


def digit_sum(base, modulus):
    """Returns the sequence of the sums of the digits of n modulo a modulus."""
    _check_base(base)
    _check_modulus(modulus)

    def follow(rest, digit):
        return (rest + digit) % modulus

    return _explored_sequence(base, 0, follow, lambda rest: rest)


def thue_morse():
    """Returns the sequence of Thue and Morse."""
    return digit_sum(2, 2)


def block_count(base, block, modulus):
    """Returns the sequence that tells how often a block stands in the digits of n, modulo a modulus."""
    _check_base(base)
    _check_block(base, block)
    _check_modulus(modulus)
    # The window has as many digits before the next one as can begin a block; at first they are zeros in front.
    window = (0,) * (len(block) - 1)

    def follow(state, digit):
        read = state[0] + (digit,)
        count = state[1] + 1 if read == block else state[1]
        return read[1:], count % modulus

    return _explored_sequence(base, (window, 0), follow, lambda state: state[1])


def rudin_shapiro():
    """Returns the sequence of Rudin and Shapiro."""
    return block_count(2, (1, 1), 2)


def paper_folding():
    """Returns the sequence of the folds of a strip of paper."""

    # A state has the member for the number read, from 1 on, and its last digit: the member is the digit before
    # the last 1, as what follows this 1 only doubles the number.
    def follow(state, digit):
        return state[1] if digit == 1 else state[0], digit

    return shifted(_explored_sequence(2, (0, 0), follow, lambda state: state[0]), 1)


def powers(base):
    """Returns the sequence that has 1 for the powers of the base and 0 for all other numbers."""
    _check_base(base)
    rows = [[2] * base for _ in range(3)]
    rows[0][0] = 0
    rows[0][1] = 1
    rows[1][0] = 1
    return least_sequence(Sequence(base, rows, (0, 1, 0)))


def residues(base, modulus):
    """Returns the sequence of the residues of n by a modulus."""
    _check_base(base)
    _check_modulus(modulus)

    def follow(rest, digit):
        return (base * rest + digit) % modulus

    return _explored_sequence(base, 0, follow, lambda rest: rest)


def repeating(base, front, loop):
    """Returns the sequence that has the items of the front and then those of the loop again and again."""
    _check_base(base)
    _check_part(front, 0)
    _check_part(loop, 1)
    start = len(front)
    items = front + loop

    def follow(place, digit):
        n = base * place + digit
        return n if n < start else start + (n - start) % len(loop)

    return _explored_sequence(base, 0, follow, lambda place: items[place])


def _explored_sequence(base, start, follow, output):
    """Returns the least sequence of the states that are reached from a start by following digits."""
    rows, found = explored(start, lambda state: [follow(state, digit) for digit in range(base)], MOST_STATES)
    return least_sequence(Sequence(base, rows, [output(state) for state in found]))


def _check_base(base):
    if not is_base(base):
        raise BadSequence("the base is not an integer from 2 to 4")


def _check_modulus(modulus):
    if not in_bounds(modulus, 1, GREATEST_MODULUS):
        raise BadSequence("the modulus is not an integer from 1 to 10")


def _check_block(base, block):
    if not isinstance(block, tuple) or not 1 <= len(block) <= LONGEST_BLOCK:
        raise BadSequence("the block is not a tuple of 1 to 4 digits")
    if not all_in_bounds(block, 0, base - 1):
        raise BadSequence("an item of the block is no digit")
    if not any(block):
        raise BadSequence("the block consists of zeros")


def _check_part(part, least_length):
    if not isinstance(part, tuple) or not least_length <= len(part) <= LONGEST_PART:
        raise BadSequence("the front or the loop is not a tuple of at most 20 outputs, and the loop of at least 1")
    if not are_outputs(part, len(part)):
        raise BadSequence("an item of the front or of the loop is no output")
