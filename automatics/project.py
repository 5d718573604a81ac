"""Automata of look-ups, and leaving out a track."""

from automatics.errors import BadAutomaton
from automatics.integers import in_bounds
from automatics.least import least
from automatics.sequence import check_bases_agree
from automatics.steps import members_agree, members_told, without


def looked(sequence, output):
    """Returns the least automaton of the numbers whose members are the output."""
    return least(members_told(sequence, output))


def looked_both(first, second):
    """Returns the least automaton of the pairs of numbers whose members in two sequences are the same."""
    check_bases_agree(first, second)
    return least(members_agree(first, second, (0, 1))[0])


def left_out(automaton, track):
    """Returns the least automaton of the rows that some number on a track makes told ones, without this track."""
    if not in_bounds(track, 0, automaton.tracks - 1):
        raise BadAutomaton("there is no such track")
    return least(without(automaton, track)[0])
