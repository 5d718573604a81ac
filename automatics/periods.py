"""Whether the members of a sequence come again from some place on, and after how many.

The states behind the numbers n of a least sequence are looked at, from 1 on.
Two of them are in one class if all words of some length lead from both to the
same state. If the members come again, then the class of the state behind n
tells exactly which residue n leaves by some q. If it does so, then the states
come again: those behind the numbers with some digits more are told by the
residue and the digits.
"""

from automatics.errors import TooMany
from automatics.explore import explored
from automatics.paths import leading_to, peeled, reached_from

LONGEST_PERIOD = 1000


def period_word(sequence):
    """Returns the shortest list of states that come again and again behind great numbers, the one for 0 first, or None.

    The sequence is a least one. Raises TooMany if the list has more than 1000 states.
    """
    states = [state for state, flag in enumerate(reached_from(sequence.rows, sequence.rows[0][1:])) if flag]
    places = {state: at for at, state in enumerate(states)}
    rows = [[places[target] for target in sequence.rows[state]] for state in states]
    levels = _levels(rows)
    word = _classes_by_residue(sequence.rows, dict(zip(states, levels[-1])))
    if word is None:
        return None
    for level, above in zip(levels[-2::-1], levels[:0:-1]):
        _check_length(word)
        word = _shortest(_with_digits(rows, word, level, above), len(word))
    _check_length(word)
    # In the first level, each state has a class of its own.
    return [states[at] for at in word]


def last_difference(sequence, word):
    """Returns the greatest n at which a sequence has not the output of the state that the word tells for n, or None.

    There may be only finitely many such numbers.
    """
    base, period = sequence.base, len(word)
    rows, pairs = explored(
        (0, 0),
        lambda pair: _next_residues(sequence.rows[pair[0]], pair[1], base, period),
        sequence.size() * period)
    ends = [
        at for at, (state, residue) in enumerate(pairs)
        if sequence.outputs[state] != sequence.outputs[word[residue]]]
    return _greatest(rows, ends)


def _levels(rows):
    """Returns lists of a class for each state: first each has its own, then those that all digits led to the same one.

    Behind the last list, the same one would come again.
    """
    levels = [list(range(len(rows)))]
    count = len(rows)
    while True:
        last = levels[-1]
        numbers = {}
        joined = [numbers.setdefault(tuple([last[target] for target in row]), len(numbers)) for row in rows]
        if len(numbers) == count:
            return levels
        levels.append(joined)
        count = len(numbers)


def _classes_by_residue(rows, classes):
    """Returns the list of the classes in which the numbers with each residue are, or None if it does not tell these."""
    base = len(rows[0])
    count = max(classes.values()) + 1
    residues = {}
    seen = {(0, 0): True}
    pending = [(0, 0)]
    while len(pending) > 0:
        state, residue = pending.pop()
        if state in classes and residues.setdefault(classes[state], residue) != residue:
            return None
        for pair in _next_residues(rows[state], residue, base, count):
            if pair not in seen:
                seen[pair] = True
                pending.append(pair)
    word = [None] * count
    for number, residue in residues.items():
        word[residue] = number
    return None if None in word else word


def _next_residues(row, residue, base, count):
    """Returns for each digit the state and the residue to which it leads."""
    return [(target, (base * residue + digit) % count) for digit, target in enumerate(row)]


def _with_digits(rows, word, level, above):
    """Returns the list of classes of a level for the numbers that have a digit more than those of the level above."""
    firsts = {}
    for row, number in zip(rows, above):
        firsts.setdefault(number, row)
    return [level[target] for number in word for target in firsts[number]]


def _shortest(word, part):
    """Returns the shortest list that, again and again, makes up a word; its length is a multiple of that of a part."""
    length = part
    while word[:length] * (len(word) // length) != word:
        length += part
    return word[:length]


def _check_length(word):
    if len(word) > LONGEST_PERIOD:
        raise TooMany("the least period is above 1000")


def _greatest(rows, ends):
    """Returns the greatest number that leads from state 0 to one of the ends, or None; only finitely many do."""
    inside = reached_from(rows, rows[0][1:])
    useful = leading_to(rows, ends)
    kept = [one and other for one, other in zip(inside, useful)]
    # How many digits lead at most from a state to an end.
    most = [0] * len(rows)
    for state in peeled(rows, kept)[::-1]:
        most[state] = max([most[target] + 1 for target in rows[state] if kept[target]], default=0)
    number = 0
    digits = [digit for digit, target in enumerate(rows[0]) if digit > 0 and kept[target]]
    if len(digits) == 0:
        return 0 if 0 in ends else None
    state = 0
    while len(digits) > 0:
        row = rows[state]
        length = max([most[row[digit]] for digit in digits])
        digit = max([digit for digit in digits if most[row[digit]] == length])
        number = len(row) * number + digit
        state = row[digit]
        digits = [digit for digit, target in enumerate(rows[state]) if kept[target]]
    return number
