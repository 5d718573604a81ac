"""Automata for which zeros in front do not matter."""

from automatics.automaton import Automaton
from automatics.errors import NotSteady
from automatics.least import folded, folding, least
from automatics.subsets import explored_sets


def is_steady(automaton):
    """Returns whether zeros in front of a word never matter."""
    return _keeps_zeros(automaton, folding(automaton))


def steady_least(automaton):
    """Returns the least automaton; raises NotSteady if zeros in front matter."""
    fold = folding(automaton)
    if not _keeps_zeros(automaton, fold):
        raise NotSteady("zeros in front matter")
    return folded(automaton, fold)


def steadied(automaton):
    """Returns the least automaton that accepts a word if zeros can be put in front so that this one does."""
    groups = [[number] for number in range(len(automaton.rows[0]))]
    rows, _, accepting = explored_sets(automaton, groups, _by_zeros(automaton))
    return least(Automaton(automaton.base, automaton.tracks, rows, accepting))


def _keeps_zeros(automaton, fold):
    return fold[0] == fold[automaton.rows[0][0]]


def _by_zeros(automaton):
    """Returns the list of the states that letters of zeros reach."""
    seen = {}
    state = 0
    while state not in seen:
        seen[state] = True
        state = automaton.rows[state][0]
    return list(seen)
