"""What the tests share: plain ways of finding what the program must return."""

import itertools
import random

from automatics.automaton import Automaton
from automatics.sequence import Sequence

# Values of every kind that are no integers from 0 to 10.
NO_INTEGERS = (None, True, False, 1.0, 0.5, "1", "", b"1", (), (1,), [], [0], {}, {1: 1}, {1}, object(), len, -1, 10 ** 30)


def plain_letters(base, tracks):
    """All letters in order."""
    return list(itertools.product(range(base), repeat=tracks))


def words_up_to(base, tracks, length):
    """All words of at most this length, in order."""
    return [
        word for many in range(length + 1) for word in itertools.product(plain_letters(base, tracks), repeat=many)]


def language(automaton, length):
    """The words of at most this length that an automaton accepts, found by its rows alone."""
    places = {letter: at for at, letter in enumerate(plain_letters(automaton.base, automaton.tracks))}
    found = []
    for word in words_up_to(automaton.base, automaton.tracks, length):
        state = 0
        for letter in word:
            state = automaton.rows[state][places[letter]]
        if state in automaton.accepting:
            found.append(word)
    return found


def random_automaton(seed, base, tracks, size):
    """An automaton of random rows."""
    source = random.Random(seed)
    width = base ** tracks
    rows = [[source.randrange(size) for _ in range(width)] for _ in range(size)]
    accepting = [state for state in range(size) if source.random() < 0.4]
    return Automaton(base, tracks, rows, accepting)


def made_steady(seed, base, tracks, size):
    """A steady automaton of random rows: zeros lead from state 0 to itself."""
    drawn = random_automaton(seed, base, tracks, size)
    rows = [list(row) for row in drawn.rows]
    rows[0][0] = 0
    return Automaton(base, tracks, rows, drawn.accepting)


def small_automata():
    """Automata of several bases, numbers of tracks and sizes."""
    shapes = [(2, 0), (2, 1), (2, 2), (3, 0), (3, 1), (3, 2), (4, 1), (4, 2)]
    return [
        random_automaton(seed, base, tracks, 1 + seed % 7)
        for base, tracks in shapes for seed in range(12)]


def pairs_of_automata(count):
    """Pairs of automata that read the same letters."""
    shapes = [(2, 0), (2, 1), (2, 2), (3, 1), (3, 2), (4, 1)]
    return [
        (random_automaton(2 * seed, base, tracks, 1 + seed % 5), random_automaton(2 * seed + 1, base, tracks, 1 + seed % 4))
        for base, tracks in shapes for seed in range(count)]


def reached_in_order(automaton):
    """The reached states in the order of the first words that lead to them."""
    order = [0]
    for state in order:
        for target in automaton.rows[state]:
            if target not in order:
                order.append(target)
    return order


def plain_classes(automaton):
    """A class for each state, found by parting all states again and again."""
    classes = [state in automaton.accepting for state in range(automaton.size)]
    while True:
        keys = [(classes[state], tuple(classes[t] for t in automaton.rows[state])) for state in range(automaton.size)]
        numbers = {key: at for at, key in enumerate(dict.fromkeys(keys))}
        finer = [numbers[key] for key in keys]
        if len(set(finer)) == len(set(classes)):
            return finer
        classes = finer


def plain_folding(automaton):
    """The folding, found from the plain classes."""
    classes = plain_classes(automaton)
    order = reached_in_order(automaton)
    numbers = {}
    for state in order:
        numbers.setdefault(classes[state], len(numbers))
    return [numbers[classes[state]] if state in order else None for state in range(automaton.size)]


def plain_least(automaton):
    """The least automaton, found from the plain folding."""
    fold = plain_folding(automaton)
    rows = {}
    for state, place in enumerate(fold):
        if place is not None:
            rows[place] = [fold[target] for target in automaton.rows[state]]
    accepting = sorted({fold[state] for state in automaton.accepting if fold[state] is not None})
    return Automaton(automaton.base, automaton.tracks, [rows[at] for at in range(len(rows))], accepting)


def parts_of(automaton):
    """What tells an automaton: two with the same parts are the same."""
    return automaton.base, automaton.tracks, automaton.rows, automaton.accepting


def counter(size, base=2, tracks=1):
    """An automaton that counts letters up to a size and accepts at the last state only."""
    width = base ** tracks
    rows = [[min(state + 1, size - 1)] * width for state in range(size)]
    return Automaton(base, tracks, rows, [size - 1])


def ring(size, base=2, tracks=1, accepting=(0,)):
    """An automaton that goes round and round."""
    width = base ** tracks
    rows = [[(state + 1) % size] * width for state in range(size)]
    return Automaton(base, tracks, rows, list(accepting))


def digits_up(number, base):
    """The digits of a number, the highest first, found by division alone."""
    found = []
    while number:
        number, digit = divmod(number, base)
        found.append(digit)
    return found[::-1]


def member(sequence, number):
    """The member of a sequence with a number, found by its rows alone."""
    state = 0
    for digit in digits_up(number, sequence.base):
        state = sequence.rows[state][digit]
    return sequence.outputs[state]


def random_sequence(seed, base, size, outputs=3):
    """A sequence of random rows in which the digit 0 leads from state 0 to itself."""
    source = random.Random(seed)
    rows = [[source.randrange(size) for _ in range(base)] for _ in range(size)]
    rows[0][0] = 0
    return Sequence(base, rows, [source.randrange(outputs) for _ in range(size)])


def residue_rows(base, modulus):
    """The rows of an automaton whose states are the residues by a modulus."""
    return [[(base * state + digit) % modulus for digit in range(base)] for state in range(modulus)]


def doubled_sequence(sequence, seed):
    """A sequence with the same members, in which each state stands twice and one state is not reached."""
    source = random.Random(seed)
    size = sequence.size()
    rows = [[target + size * source.randrange(2) for target in row] for row in sequence.rows * 2]
    rows.append([source.randrange(2 * size + 1) for _ in rows[0]])
    return Sequence(sequence.base, rows, sequence.outputs * 2 + (7,))


def small_sequences():
    """Sequences of all bases and several sizes, some of them with states that are alike or not reached."""
    found = [random_sequence(seed, base, 1 + seed % 6) for base in (2, 3, 4) for seed in range(12)]
    return found + [doubled_sequence(sequence, seed) for seed, sequence in enumerate(found)]


def sequence_parts(sequence):
    """What tells a sequence with its states."""
    return sequence.base, sequence.rows, sequence.outputs


def plain_least_parts(sequence):
    """The parts of the least sequence, found by parting all states again and again."""
    classes = list(sequence.outputs)
    while True:
        keys = [(mark, tuple(classes[target] for target in row)) for mark, row in zip(classes, sequence.rows)]
        numbers = {key: at for at, key in enumerate(dict.fromkeys(keys))}
        finer = [numbers[key] for key in keys]
        if len(set(finer)) == len(set(classes)):
            break
        classes = finer
    order = [0]
    numbers = {finer[0]: 0}
    for state in order:
        for target in sequence.rows[state]:
            if finer[target] not in numbers:
                numbers[finer[target]] = len(order)
                order.append(target)
    rows = tuple(tuple(numbers[finer[target]] for target in sequence.rows[state]) for state in order)
    return sequence.base, rows, tuple(sequence.outputs[state] for state in order)


def great_numbers(seed, count=5):
    """Numbers of up to some thousand digits."""
    source = random.Random(seed)
    return [10 ** 9, 4 ** 50, 3 ** 40 - 1] + [source.randrange(10 ** (700 * at)) for at in range(1, count + 1)]
