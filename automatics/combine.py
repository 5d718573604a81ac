"""Automata that are put together from others."""

from automatics.automaton import (
    Automaton, MOST_STATES, accepting_flags, check_base, check_letters_agree, check_tracks, letter_count,
    picked_letters,
)
from automatics.errors import BadAutomaton
from automatics.explore import explored
from automatics.integers import all_in_bounds
from automatics.least import least


def product(first, second, way):
    """Returns the automaton that goes with two at once, and the list of its pairs of states."""
    check_letters_agree(first, second)
    rows, pairs = explored(
        (0, 0), lambda pair: list(zip(first.rows[pair[0]], second.rows[pair[1]])), MOST_STATES)
    first_flags = accepting_flags(first)
    second_flags = accepting_flags(second)
    if way == "both":
        accepting = [at for at, (one, other) in enumerate(pairs) if first_flags[one] and second_flags[other]]
    else:
        accepting = [at for at, (one, other) in enumerate(pairs) if first_flags[one] or second_flags[other]]
    return Automaton(first.base, first.tracks, rows, accepting), pairs


def opposite(automaton):
    """Returns the least automaton that accepts the words that this one does not accept."""
    flags = accepting_flags(automaton)
    others = [state for state in range(automaton.size) if not flags[state]]
    return least(Automaton(automaton.base, automaton.tracks, automaton.rows, others))


def both(first, second):
    """Returns the least automaton that accepts the words that both accept."""
    return least(product(first, second, "both")[0])


def either(first, second):
    """Returns the least automaton that accepts the words that at least one accepts."""
    return least(product(first, second, "either")[0])


def nothing(base, tracks):
    """Returns the least automaton that accepts no word."""
    return _single(base, tracks, [])


def everything(base, tracks):
    """Returns the least automaton that accepts every word."""
    return _single(base, tracks, [0])


def placed(automaton, tracks, places):
    """Returns the least automaton that reads the tracks of another one at the given places."""
    check_tracks(tracks)
    _check_places(places, automaton.tracks, tracks)
    picks = picked_letters(automaton.base, tracks, places)
    rows = [[row[pick] for pick in picks] for row in automaton.rows]
    return least(Automaton(automaton.base, tracks, rows, automaton.accepting))


def _single(base, tracks, accepting):
    check_base(base)
    check_tracks(tracks)
    return Automaton(base, tracks, [[0] * letter_count(base, tracks)], accepting)


def _check_places(places, many, tracks):
    if not isinstance(places, tuple) or len(places) != many:
        raise BadAutomaton("the places are not a tuple with one for each track of the automaton")
    if not all_in_bounds(places, 0, tracks - 1):
        raise BadAutomaton("a place is not the number of a track")
