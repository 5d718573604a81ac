"""Automata that read words, and the letters that these consist of."""

from automatics.errors import BadAutomaton, BadWord
from automatics.integers import all_in_bounds, in_bounds, is_base

MOST_TRACKS = 5
MOST_STATES = 5000


class Automaton:
    """States and the letters that lead from one to another; it begins in state 0."""

    def __init__(self, base, tracks, rows, accepting):
        check_base(base)
        check_tracks(tracks)
        self.base = base
        self.tracks = tracks
        self.rows = _copied_rows(rows, letter_count(base, tracks))
        self.size = len(self.rows)
        self.accepting = _copied_accepting(accepting, self.size)

    def after(self, state, letter):
        """Returns the state to which a letter leads from a state."""
        if not in_bounds(state, 0, self.size - 1):
            raise BadAutomaton("there is no such state")
        if not _is_letter(letter, self.base, self.tracks):
            raise BadWord("this is no letter for this automaton")
        return self.rows[state][letter_number(self.base, letter)]

    def reach(self, word):
        """Returns the state to which a word leads from state 0."""
        if not isinstance(word, tuple):
            raise BadWord("a word is a tuple of letters")
        state = 0
        for letter in word:
            state = self.after(state, letter)
        return state

    def accepts(self, word):
        """Returns whether a word leads to an accepting state."""
        return self.reach(word) in self.accepting


def letters(base, tracks):
    """Returns the list of the letters in ascending order."""
    found = [()]
    for _ in range(tracks):
        found = [letter + (digit,) for letter in found for digit in range(base)]
    return found


def letter_count(base, tracks):
    """Returns how many letters there are."""
    count = 1
    for _ in range(tracks):
        count = count * base
    return count


def letter_number(base, letter):
    """Returns the index of a letter in the list of the letters."""
    number = 0
    for digit in letter:
        number = number * base + digit
    return number


def picked_letters(base, tracks, places):
    """Returns for each letter the number of the letter that consists of its digits at the places."""
    return [letter_number(base, [letter[place] for place in places]) for letter in letters(base, tracks)]


def same(first, second):
    """Returns whether two automata are alike in all their parts."""
    shapes_agree = first.base == second.base and first.tracks == second.tracks
    return shapes_agree and first.rows == second.rows and first.accepting == second.accepting


def accepting_flags(automaton):
    """Returns a list that tells for each state whether it is accepting."""
    flags = [False] * automaton.size
    for state in automaton.accepting:
        flags[state] = True
    return flags


def check_base(base):
    """Raises BadAutomaton if a value is no base."""
    if not is_base(base):
        raise BadAutomaton("the base is not an integer from 2 to 4")


def check_tracks(tracks):
    """Raises BadAutomaton if a value is no number of tracks."""
    if not in_bounds(tracks, 0, MOST_TRACKS):
        raise BadAutomaton("the number of tracks is not an integer from 0 to 5")


def check_letters_agree(first, second):
    """Raises BadAutomaton if two automata do not read the same letters."""
    if first.base != second.base or first.tracks != second.tracks:
        raise BadAutomaton("the bases or the tracks of the automata are unlike")


def _is_letter(value, base, tracks):
    if not isinstance(value, tuple) or len(value) != tracks:
        return False
    return all_in_bounds(value, 0, base - 1)


def _copied_rows(rows, width):
    if not isinstance(rows, (list, tuple)) or not 1 <= len(rows) <= MOST_STATES:
        raise BadAutomaton("there are not from 1 to 5000 rows")
    copied = []
    for row in rows:
        if not isinstance(row, (list, tuple)) or len(row) != width:
            raise BadAutomaton("a row does not have a state for each letter")
        if not all_in_bounds(row, 0, len(rows) - 1):
            raise BadAutomaton("a row leads to something that is no state")
        copied.append(tuple(row))
    return tuple(copied)


def _copied_accepting(accepting, size):
    if not isinstance(accepting, (list, tuple)):
        raise BadAutomaton("the accepting states are not in a list")
    if not all_in_bounds(accepting, 0, size - 1):
        raise BadAutomaton("an accepting state is no state")
    if len(set(accepting)) != len(accepting):
        raise BadAutomaton("an accepting state stands twice")
    return tuple(sorted(accepting))
