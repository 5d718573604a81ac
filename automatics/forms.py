"""The form of an entry of a log, and of what its rule shows."""

from automatics.automaton import MOST_STATES, MOST_TRACKS, letter_count
from automatics.formula import is_variable
from automatics.integers import all_in_bounds, in_bounds

ITEMS = 7


class Entry:
    """The seven items of an entry by their names."""

    def __init__(self, items):
        self.rule, self.parts, self.variables, self.formula, self.rows, self.accepting, self.shown = items


def has_form(value, at, base):
    """Returns whether a value of any kind has the form of the entry with this number, but for its formula.

    What is shown, and how many parts there are, is left to the rule.
    """
    if not isinstance(value, tuple) or len(value) != ITEMS:
        return False
    rule, parts, variables, _, rows, accepting, _ = value
    if not isinstance(rule, str) or not _are_variables(variables):
        return False
    if not isinstance(parts, tuple) or not all_in_bounds(parts, 0, at - 1):
        return False
    return _are_rows(rows, letter_count(base, len(variables))) and are_states(accepting, len(rows))


def are_states(value, size):
    """Returns whether a value of any kind is an ascending tuple of states."""
    if not isinstance(value, tuple) or not all_in_bounds(value, 0, size - 1):
        return False
    return _ascends(value)


def are_pairs(value, count, size, other_size):
    """Returns whether a value of any kind is a tuple of so many pairs of states, one of each of two automata."""
    if not isinstance(value, tuple) or len(value) != count:
        return False
    return all([_is_pair(pair, size, other_size) for pair in value])


def are_sets(value, count, size):
    """Returns whether a value of any kind is a tuple of so many ascending tuples of states, none of them empty."""
    if not isinstance(value, tuple) or len(value) != count:
        return False
    return all([are_states(states, size) and len(states) > 0 for states in value])


def is_fold(value, count, size):
    """Returns whether a value of any kind is a tuple of so many states or None, of which the first one is 0."""
    if not isinstance(value, tuple) or len(value) != count:
        return False
    return all([state is None or in_bounds(state, 0, size - 1) for state in value]) and value[0] == 0


def are_words(value, base, tracks):
    """Returns whether a value of any kind is a tuple of words."""
    if not isinstance(value, tuple):
        return False
    return all([_is_word(word, base, tracks) for word in value])


def is_empty(value):
    """Returns whether a value of any kind is the empty tuple."""
    return isinstance(value, tuple) and len(value) == 0


def _is_word(value, base, tracks):
    if not isinstance(value, tuple):
        return False
    return all([_is_letter(letter, base, tracks) for letter in value])


def _is_letter(value, base, tracks):
    if not isinstance(value, tuple) or len(value) != tracks:
        return False
    return all_in_bounds(value, 0, base - 1)


def _is_pair(value, size, other_size):
    if not isinstance(value, tuple) or len(value) != 2:
        return False
    return in_bounds(value[0], 0, size - 1) and in_bounds(value[1], 0, other_size - 1)


def _are_variables(value):
    if not isinstance(value, tuple) or len(value) > MOST_TRACKS:
        return False
    return all([is_variable(item) for item in value]) and _ascends(value)


def _are_rows(value, width):
    if not isinstance(value, tuple) or not 1 <= len(value) <= MOST_STATES:
        return False
    return all([_is_row(row, width, len(value)) for row in value])


def _is_row(value, width, size):
    return isinstance(value, tuple) and len(value) == width and all_in_bounds(value, 0, size - 1)


def _ascends(items):
    return all([one < other for one, other in zip(items, items[1:])])
