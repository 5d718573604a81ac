"""The single steps from formulas to automata, which are not least yet, and what shows that a step is right."""

from automatics.automaton import Automaton, MOST_STATES, letters, letter_number, picked_letters
from automatics.basic import weighing
from automatics.explore import explored
from automatics.subsets import explored_sets

OVER = "over"
UNDER = "under"


def compared(base, sign, factors, constant):
    """Returns the automaton of a comparison, and for each state its value, or that this is over or under."""
    automaton, values, bounds = weighing(base, factors, constant, sign)
    words = dict(zip(bounds, (UNDER, OVER)))
    return automaton, [words.get(value, value) for value in values]


def members_told(sequence, output):
    """Returns the automaton of the numbers whose members are the output."""
    accepting = [state for state, other in enumerate(sequence.outputs) if other == output]
    return Automaton(sequence.base, 1, sequence.rows, accepting)


def members_agree(first, second, places):
    """Returns the automaton of the rows in which the members with the numbers at two places agree, and its pairs."""
    base = first.base
    tracks = max(places) + 1
    digits = [tuple([letter[place] for place in places]) for letter in letters(base, tracks)]
    rows, pairs = _explored_pairs(first.rows, second.rows, digits)
    accepting = [at for at, (one, other) in enumerate(pairs) if first.outputs[one] == second.outputs[other]]
    return Automaton(base, tracks, rows, accepting), pairs


def joined(way, tracks, first, second, places):
    """Returns the automaton that goes with two on so many tracks, and its pairs of states.

    It accepts if both do (way "and"), or if at least one does (way "or"). The
    pair of tuples `places` tells on which tracks each of them reads.
    """
    base = first.base
    picks = list(zip(picked_letters(base, tracks, places[0]), picked_letters(base, tracks, places[1])))
    rows, pairs = _explored_pairs(first.rows, second.rows, picks)
    ends = {state: True for state in first.accepting}
    others = {state: True for state in second.accepting}
    if way == "and":
        accepting = [at for at, (one, other) in enumerate(pairs) if one in ends and other in others]
    else:
        accepting = [at for at, (one, other) in enumerate(pairs) if one in ends or other in others]
    return Automaton(base, tracks, rows, accepting), pairs


def without(automaton, track):
    """Returns the automaton that accepts if some number on a track does, which is left out, and its sets as masks."""
    groups = letters_without(automaton.base, automaton.tracks, track)
    start = explored(0, lambda state: [automaton.rows[state][number] for number in groups[0]], automaton.size)[1]
    rows, masks, accepting = explored_sets(automaton, groups, start)
    return Automaton(automaton.base, automaton.tracks - 1, rows, accepting), masks


def letters_without(base, tracks, track):
    """Returns for each letter without a track the list of the numbers of the letters that have a digit more there."""
    return [
        [letter_number(base, letter[:track] + (digit,) + letter[track:]) for digit in range(base)]
        for letter in letters(base, tracks - 1)]


def _explored_pairs(first_rows, second_rows, picks):
    """Returns (rows, pairs) of the pairs of states to which pairs of letters lead from both first states."""
    return explored(
        (0, 0),
        lambda pair: _next_pairs(first_rows[pair[0]], second_rows[pair[1]], picks),
        MOST_STATES)


def _next_pairs(first_row, second_row, picks):
    return [(first_row[one], second_row[other]) for one, other in picks]
