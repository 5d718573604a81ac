"""Whole questions about formulas and sequences."""

from automatics.about import first_place, mirrored, square
from automatics.automaton import Automaton, MOST_STATES
from automatics.compiling import compiled
from automatics.digits import numbers_of
from automatics.errors import BadValues
from automatics.explore import explored
from automatics.formula import free
from automatics.least import least, parting_word
from automatics.linear import counting
from automatics.periods import last_difference, period_word
from automatics.sequence import least_sequence


def likeness(first, second, base, sequences):
    """Returns the first row of values of the free variables for which exactly one of two formulas holds, or None."""
    if free(first) != free(second):
        raise BadValues("the formulas do not have the same free variables")
    automaton = compiled(first, base, sequences)
    word = parting_word(automaton, compiled(second, base, sequences))
    # The word does not begin with zeros: without them it would part, too, and be shorter.
    return None if word is None else numbers_of(word, automaton.tracks, base)


def block_numbers(sequence):
    """Returns the Linear that tells for each length the number of different blocks."""
    return counting(_compiled_for(first_place("T", "i", "n"), sequence), 1)


def square_lengths(sequence):
    """Returns the automaton of the lengths of the blocks that are somewhere followed by the same block."""
    return _compiled_for(("some", "i", square("T", "i", "p")), sequence)


def mirror_lengths(sequence):
    """Returns the automaton of the lengths of the blocks that are the same if they are read from behind."""
    return _compiled_for(("some", "i", mirrored("T", "i", "n")), sequence)


def places(sequence, block):
    """Returns the automaton of the places at which a tuple of outputs stands as a block."""
    small = least_sequence(sequence)
    base, count = small.base, len(block)
    # Kept are the states behind as many numbers as there are outputs. A digit more makes p + c to k * p + d + c.
    steps = [[divmod(digit + at, base) for at in range(count)] for digit in range(base)]
    rows, found = explored(
        tuple([small.state(at) for at in range(count)]),
        lambda states: [_next_states(small.rows, states, step) for step in steps],
        MOST_STATES)
    accepting = [at for at, states in enumerate(found) if [small.outputs[state] for state in states] == list(block)]
    return least(Automaton(base, 1, rows, accepting))


def least_period(sequence):
    """Returns the least period of a sequence and the least place from which on it holds, or None."""
    small = least_sequence(sequence)
    word = period_word(small)
    if word is None:
        return None
    last = last_difference(small, word)
    return 0 if last is None else last + 1, len(word)


def _compiled_for(formula, sequence):
    return compiled(formula, sequence.base, {"T": sequence})


def _next_states(rows, states, step):
    """Returns the states behind the numbers with a digit more: for each, its place and its digit are told."""
    return tuple([rows[states[place]][digit] for place, digit in step])
