"""The least automaton of a language, and comparing languages."""

from automatics.automaton import Automaton, accepting_flags, check_letters_agree, letters
from automatics.folds import first_folded, fold_of
from automatics.parting import parting_path


def least(automaton):
    """Returns the automaton with the same language and the fewest states."""
    return folded(automaton, folding(automaton))


def folded(automaton, fold):
    """Returns the least automaton, to which the states of an automaton are folded so."""
    rows = [[fold[target] for target in automaton.rows[state]] for state in first_folded(fold)]
    accepting = sorted({fold[state] for state in automaton.accepting if fold[state] is not None})
    return Automaton(automaton.base, automaton.tracks, rows, accepting)


def folding(automaton):
    """Returns for each state its state in the least automaton, or None if no word leads to it."""
    return fold_of(automaton.rows, accepting_flags(automaton))


def alike(first, second):
    """Returns whether two automata have the same language."""
    return parting_word(first, second) is None


def parting_word(first, second):
    """Returns the first word that exactly one of two automata accepts, or None."""
    check_letters_agree(first, second)
    path = parting_path(
        (first.rows, accepting_flags(first), 0), (second.rows, accepting_flags(second), 0))
    if path is None:
        return None
    alphabet = letters(first.base, first.tracks)
    return tuple([alphabet[number] for number in path])


def first_word(automaton):
    """Returns the first word that an automaton accepts, or None."""
    width = len(automaton.rows[0])
    silent = Automaton(automaton.base, automaton.tracks, [[0] * width], [])
    return parting_word(automaton, silent)
