"""The least automaton of a language, and comparing languages."""

from automatics.automaton import Automaton, MOST_STATES, accepting_flags, check_letters_agree, letters
from automatics.explore import explored
from automatics.partition import alike_classes


class Groups:
    """States that were joined, one with another; each group has a leader."""

    def __init__(self, size):
        self.above = list(range(size))

    def leader(self, state):
        """Returns the leader of the group of a state."""
        while self.above[state] != state:
            self.above[state] = self.above[self.above[state]]
            state = self.above[state]
        return state

    def unite(self, one, other):
        """Joins the groups of two states; returns whether they were different ones."""
        first = self.leader(one)
        second = self.leader(other)
        self.above[second] = first
        return first != second


def least(automaton):
    """Returns the automaton with the same language and the fewest states."""
    fold = folding(automaton)
    rows = {}
    for state, place in enumerate(fold):
        if place is not None and place not in rows:
            rows[place] = [fold[target] for target in automaton.rows[state]]
    accepting = sorted({fold[state] for state in automaton.accepting if fold[state] is not None})
    ordered = [rows[place] for place in range(len(rows))]
    return Automaton(automaton.base, automaton.tracks, ordered, accepting)


def folding(automaton):
    """Returns for each state its state in the least automaton, or None if no word leads to it."""
    rows, found = explored(0, lambda state: automaton.rows[state], MOST_STATES)
    flags = accepting_flags(automaton)
    classes = alike_classes(rows, [at for at, state in enumerate(found) if flags[state]])
    places = {}
    fold = [None] * automaton.size
    for at, state in enumerate(found):
        fold[state] = places.setdefault(classes[at], len(places))
    return fold


def alike(first, second):
    """Returns whether two automata have the same language."""
    return parting_word(first, second) is None


def parting_word(first, second):
    """Returns the first word that exactly one of two automata accepts, or None.

    Pairs of states are looked at in the order of the words that lead to them.
    A pair is left out if earlier pairs join its states: a word that parts it
    parts one of those, and this gives an earlier word.
    """
    check_letters_agree(first, second)
    first_flags = accepting_flags(first)
    second_flags = accepting_flags(second)
    groups = Groups(first.size + second.size)
    groups.unite(0, first.size)
    trail = [(0, 0, None, None)]
    at = 0
    while at < len(trail):
        one, other = trail[at][:2]
        if first_flags[one] != second_flags[other]:
            return _word_to(trail, at, letters(first.base, first.tracks))
        for number, (below, beside) in enumerate(zip(first.rows[one], second.rows[other])):
            if groups.unite(below, first.size + beside):
                trail.append((below, beside, at, number))
        at += 1
    return None


def first_word(automaton):
    """Returns the first word that an automaton accepts, or None."""
    width = len(automaton.rows[0])
    silent = Automaton(automaton.base, automaton.tracks, [[0] * width], [])
    return parting_word(automaton, silent)


def _word_to(trail, at, alphabet):
    """Returns the word that leads to a place of the trail, whose items tell where they came from."""
    word = []
    while at > 0:
        at, number = trail[at][2:]
        word.append(alphabet[number])
    return tuple(word[::-1])
