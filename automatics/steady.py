"""Automata for which zeros in front do not matter."""

from automatics.automaton import Automaton, MOST_STATES, accepting_flags
from automatics.explore import explored
from automatics.least import folding, least


def is_steady(automaton):
    """Returns whether zeros in front of a word never matter."""
    fold = folding(automaton)
    return fold[0] == fold[automaton.rows[0][0]]


def steadied(automaton):
    """Returns the least automaton that accepts a word if zeros can be put in front so that this one does."""
    rows, sets = explored(_by_zeros(automaton), lambda states: _next_sets(automaton, states), MOST_STATES)
    flags = accepting_flags(automaton)
    accepting = [at for at, states in enumerate(sets) if any([flags[state] for state in states])]
    return least(Automaton(automaton.base, automaton.tracks, rows, accepting))


def _by_zeros(automaton):
    """Returns the ascending tuple of the states that letters of zeros reach."""
    seen = {}
    state = 0
    while state not in seen:
        seen[state] = True
        state = automaton.rows[state][0]
    return tuple(sorted(seen))


def _next_sets(automaton, states):
    """Returns for each letter the ascending tuple of the states to which it leads from some states."""
    rows = [automaton.rows[state] for state in states]
    return [tuple(sorted(set(column))) for column in zip(*rows)]
