"""Told rows of numbers: which is the n-th, and how many there are."""

from automatics.automaton import letter_number, letters
from automatics.compiling import compiled
from automatics.counts import Counts
from automatics.digits import numbers_of, word_of
from automatics.errors import BadValues, BadWord, TooMany
from automatics.formula import free
from automatics.integers import is_number
from automatics.paths import leading_to, peeled, reached_from
from automatics.steady import steady_least

LONGEST_WORD = 2000
MOST_ROWS = 10000


def decide(formula, base, sequences):
    """Returns whether a sentence is true."""
    if len(free(formula)) > 0:
        raise BadValues("the formula is no sentence")
    return 0 in compiled(formula, base, sequences).accepting


def row_at(automaton, index):
    """Returns the told row with this index, or None if there are not so many."""
    small = steady_least(automaton)
    total = _total(small)
    if total is not None and index >= total:
        return None
    counts = Counts(small)
    length = 0
    # Words of a length write all rows with at most so many digits, those with fewer come first.
    while counts.of_length(length)[0] <= index:
        length += 1
        if length > LONGEST_WORD:
            raise TooMany("the row has a word of more than 2000 letters")
    alphabet = letters(small.base, small.tracks)
    word = [alphabet[number] for number in _numbered(small, counts, length, index)]
    return numbers_of(word, small.tracks, small.base)


def index_of(automaton, row):
    """Returns how many told rows come before a row of numbers."""
    small = steady_least(automaton)
    if not isinstance(row, tuple) or len(row) != small.tracks or not all([is_number(number) for number in row]):
        raise BadWord("this is no tuple of a number for each track")
    smaller = []
    state = 0
    for letter in word_of(row, small.base):
        number = letter_number(small.base, letter)
        smaller.append(small.rows[state][:number])
        state = small.rows[state][number]
    counts = Counts(small)
    total = 0
    for length, targets in enumerate(smaller[::-1]):
        many = counts.of_length(length)
        total += sum([many[target] for target in targets])
    return total


def count_within(automaton, length):
    """Returns the number of told rows of numbers that have at most so many digits."""
    return Counts(steady_least(automaton)).of_length(length)[0]


def rows_within(automaton, length):
    """Returns the list of the told rows of numbers that have at most so many digits, in order."""
    small = steady_least(automaton)
    counts = Counts(small)
    if counts.of_length(length)[0] > MOST_ROWS:
        raise TooMany("there are more than 10000 rows")
    alphabet = letters(small.base, small.tracks)
    begun = [(0, (0,) * small.tracks)] if counts.of_length(length)[0] > 0 else []
    for left in range(length - 1, -1, -1):
        many = counts.of_length(left)
        begun = [
            (target, tuple([small.base * number + digit for number, digit in zip(numbers, letter)]))
            for state, numbers in begun
            for letter, target in zip(alphabet, small.rows[state]) if many[target] > 0]
    return [numbers for _, numbers in begun]


def is_finite(automaton):
    """Returns whether only finitely many rows are told."""
    return count_all(automaton) is not None


def count_all(automaton):
    """Returns the number of told rows, or None if there are infinitely many."""
    return _total(steady_least(automaton))


def _total(small):
    """Returns the number of rows that a steady least automaton tells, or None if there are infinitely many."""
    # Words of told rows do not begin with a letter of zeros.
    inside = reached_from(small.rows, small.rows[0][1:])
    useful = leading_to(small.rows, small.accepting)
    kept = [one and other for one, other in zip(inside, useful)]
    order = peeled(small.rows, kept)
    if len(order) < sum(kept):
        return None
    totals = [0] * small.size
    ends = {state: True for state in small.accepting}
    for state in order[::-1]:
        totals[state] = sum([totals[target] for target in small.rows[state]]) + (1 if state in ends else 0)
    return sum([totals[target] for target in small.rows[0][1:]]) + (1 if 0 in ends else 0)


def _numbered(small, counts, length, index):
    """Returns the numbers of the letters of the accepted word of a length with this index."""
    found = []
    state = 0
    for left in range(length - 1, -1, -1):
        many = counts.of_length(left)
        for number, target in enumerate(small.rows[state]):
            if index < many[target]:
                found.append(number)
                state = target
                break
            index -= many[target]
    return found
