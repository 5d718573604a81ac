"""Going with all states of a set at once.

A set of states is told by a number, its mask: the bit with the number of a
state is set if the state is in it.
"""

from automatics.automaton import MOST_STATES
from automatics.explore import explored


def mask_of(states):
    """Returns the mask of some states."""
    mask = 0
    for state in states:
        mask |= 1 << state
    return mask


def members(mask):
    """Returns the ascending tuple of the states of a mask."""
    found = []
    while mask > 0:
        lowest = mask & -mask
        found.append(lowest.bit_length() - 1)
        mask -= lowest
    return tuple(found)


def explored_sets(automaton, groups, start):
    """Returns (rows, masks, accepting) of the sets of states that are reached from the set of some states.

    Each group of numbers of letters is read as one letter, which leads to all
    states to which the letters of the group lead. A set is accepting if one of
    its states is. Raises TooMany if there are more than 5000 sets.
    """
    columns = [tuple([mask_of([row[number] for number in group]) for row in automaton.rows]) for group in groups]
    # Groups that lead everywhere to the same states are followed only once.
    numbers = {}
    places = [numbers.setdefault(column, len(numbers)) for column in columns]
    unlike = list(numbers)
    rows, masks = explored(mask_of(start), lambda mask: _followed(unlike, places, members(mask)), MOST_STATES)
    ends = mask_of(automaton.accepting)
    return rows, masks, [at for at, mask in enumerate(masks) if mask & ends > 0]


def _followed(columns, places, states):
    """Returns for each group the mask of the states to which it leads from some states."""
    unions = []
    for column in columns:
        union = 0
        for state in states:
            union |= column[state]
        unions.append(union)
    return [unions[place] for place in places]
