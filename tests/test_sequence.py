"""3.1 to 3.4: sequences, the least ones, comparing them."""

import itertools
import random
import unittest

from automatics.errors import BadSequence, NotSteady, OtherBase
from automatics.knownseq import repeating, residues, thue_morse
from automatics.sequence import Sequence, differing, least_sequence, same
from tests.helpers import (
    NO_INTEGERS, doubled_sequence, great_numbers, member, plain_least_parts, random_sequence, sequence_parts,
    small_sequences)

ROWS = [[0, 1], [1, 0]]
WRONG_LISTS = (None, True, 0, 1, 2.5, "01", "", b"01", {0: 1}, {0, 1}, {}, range(2), object(), iter(()))


class Creating(unittest.TestCase):

    def test_attributes(self):
        for outer in (list, tuple):
            for inner in (list, tuple):
                for last in (list, tuple):
                    sequence = Sequence(2, outer(inner(row) for row in ROWS), last((3, 9)))
                    self.assertEqual(sequence_parts(sequence), (2, ((0, 1), (1, 0)), (3, 9)))
                    self.assertIs(type(sequence.base), int)
                    self.assertIs(type(sequence.rows), tuple)
                    self.assertEqual({type(row) for row in sequence.rows}, {tuple})
                    self.assertIs(type(sequence.outputs), tuple)
                    self.assertEqual(sequence.size(), 2)
                    self.assertIs(type(sequence.size()), int)

    def test_each_base(self):
        for base in (2, 3, 4):
            sequence = Sequence(base, [[0] * base], [5])
            self.assertEqual(sequence_parts(sequence), (base, ((0,) * base,), (5,)))
            self.assertEqual(sequence.size(), 1)

    def test_what_was_passed_may_be_changed(self):
        rows, outputs = [[0, 1], [1, 0]], [0, 1]
        sequence = Sequence(2, rows, outputs)
        rows[0][1] = 0
        rows.append([0, 0])
        outputs[1] = 7
        outputs.append(3)
        self.assertEqual(sequence_parts(sequence), (2, ((0, 1), (1, 0)), (0, 1)))
        self.assertEqual(sequence.first(4), [0, 1, 1, 0])

    def test_what_was_passed_is_not_changed(self):
        rows, outputs = [[0, 1], [1, 0]], [0, 1]
        Sequence(2, rows, outputs)
        self.assertEqual((rows, outputs), ([[0, 1], [1, 0]], [0, 1]))

    def test_number_of_states(self):
        for size, right in ((1, True), (1999, True), (2000, True), (2001, False), (2500, False), (0, False)):
            rows = [[state, max(size - 1, 0)] for state in range(size)]
            with self.subTest(size=size):
                if right:
                    self.assertEqual(Sequence(2, rows, [0] * size).size(), size)
                else:
                    with self.assertRaises(BadSequence):
                        Sequence(2, rows, [0] * size)

    def test_wrong_bases(self):
        for base in NO_INTEGERS + (0, 1, 5, 2.0, 3.0):
            for width in (1, 2, 3, 4, 5):
                with self.subTest(base=base), self.assertRaises(BadSequence):
                    Sequence(base, [[0] * width], [0])

    def test_wrong_rows(self):
        for rows in WRONG_LISTS + ([], (), [None, None], [[0, 1]], [[0, 1]] * 3):
            with self.subTest(rows=rows), self.assertRaises(BadSequence):
                Sequence(2, rows, [0, 1])
        for row in WRONG_LISTS + ([], [0], [0, 1, 0], (1,), "01", b"\x00\x01", {0: 1, 1: 1}, {0, 1}):
            for at in (0, 1):
                rows = [[0, 1], [1, 0]]
                rows[at] = row
                with self.subTest(rows=rows), self.assertRaises(BadSequence):
                    Sequence(2, rows, [0, 1])
        with self.assertRaises(BadSequence):
            Sequence(3, [[0, 0]], [0])

    def test_wrong_states(self):
        for state in NO_INTEGERS + (2, 3, 1.0):
            for at in (0, 1):
                for digit in (0, 1):
                    rows = [[0, 1], [1, 0]]
                    rows[at][digit] = state
                    with self.subTest(rows=rows), self.assertRaises(BadSequence):
                        Sequence(2, rows, [0, 1])

    def test_wrong_outputs(self):
        for outputs in WRONG_LISTS + ([], [0], [0, 1, 0], ()):
            with self.subTest(outputs=outputs), self.assertRaises(BadSequence):
                Sequence(2, ROWS, outputs)
        for output in NO_INTEGERS + (10, 11, 1.0):
            for at in (0, 1):
                outputs = [0, 1]
                outputs[at] = output
                with self.subTest(outputs=outputs), self.assertRaises(BadSequence):
                    Sequence(2, ROWS, outputs)
        for output in range(10):
            self.assertEqual(Sequence(2, ROWS, [output, 0]).outputs, (output, 0))

    def test_wrong_lists_come_before_zeros_that_matter(self):
        with self.assertRaises(BadSequence):
            Sequence(2, [[1, 0], [1, 2]], [0, 1])
        with self.assertRaises(BadSequence):
            Sequence(2, [[1, 0], [1, 0]], [0, 10])


def zeros_matter(base, rows, outputs):
    """Whether zeros in front of a word of less digits than there are states change the output."""
    def output(word):
        state = 0
        for digit in word:
            state = rows[state][digit]
        return outputs[state]
    return any(
        output(word) != output((0,) + word)
        for length in range(len(rows)) for word in itertools.product(range(base), repeat=length))


class Zeros(unittest.TestCase):

    def test_against_trying_out(self):
        source = random.Random(11)
        told = set()
        for _ in range(1500):
            base, size = source.choice((2, 2, 3, 4)), source.randrange(1, 5)
            rows = [[source.randrange(size) for _ in range(base)] for _ in range(size)]
            outputs = [source.randrange(2) for _ in range(size)]
            matter = zeros_matter(base, rows, outputs)
            told.add((matter, rows[0][0] == 0))
            if matter:
                with self.assertRaises(NotSteady):
                    Sequence(base, rows, outputs)
            else:
                self.assertEqual(sequence_parts(Sequence(base, rows, outputs))[2], tuple(outputs))
        self.assertEqual(told, {(True, False), (False, False), (False, True)})

    def test_to_another_state_that_no_word_parts(self):
        sequence = Sequence(2, [[1, 2], [0, 2], [2, 2]], [4, 4, 5])
        self.assertEqual(sequence.first(4), [4, 5, 5, 5])
        Sequence(2, [[1, 2], [3, 4], [2, 2], [1, 2], [4, 4]], [0, 0, 1, 0, 1])

    def test_to_another_state_with_another_output(self):
        with self.assertRaises(NotSteady):
            Sequence(2, [[1, 1], [1, 1]], [0, 1])

    def test_parted_by_a_long_word_only(self):
        # From 0 and from 1, the digits 1 lead through rings of the lengths 20 and 21.
        rows = [[20, at + 1 if at < 19 else 0] for at in range(20)]
        rows += [[20, 20 + at + 1 if at < 20 else 20] for at in range(21)]
        outputs = [0] * 41
        self.assertEqual(Sequence(2, rows, outputs).size(), 41)
        outputs[19] = outputs[39] = 1
        with self.assertRaises(NotSteady):
            Sequence(2, rows, outputs)


class Members(unittest.TestCase):

    def test_small_numbers(self):
        for sequence in small_sequences():
            members = [member(sequence, n) for n in range(200)]
            self.assertEqual([sequence.at(n) for n in range(200)], members)
            for count in (0, 1, 2, 3, 4, 5, 64, 65, 200):
                self.assertEqual(sequence.first(count), members[:count])
            self.assertEqual([sequence.outputs[sequence.state(n)] for n in range(200)], members)

    def test_states(self):
        sequence = Sequence(3, [[1, 2, 0], [1, 2, 0], [3, 3, 2], [2, 2, 2]], [0, 0, 1, 1])
        # The number 0 has no digits, so it leads nowhere.
        self.assertEqual([sequence.state(n) for n in range(12)], [0, 2, 0, 3, 3, 2, 1, 2, 0, 2, 2, 2])
        self.assertIs(type(sequence.state(5)), int)
        self.assertIs(type(sequence.at(5)), int)
        self.assertIs(type(sequence.first(5)), list)

    def test_great_numbers(self):
        for seed, base in enumerate((2, 3, 4)):
            sequence = random_sequence(seed, base, 50, 10)
            for n in great_numbers(seed):
                self.assertEqual(sequence.at(n), member(sequence, n))
                self.assertEqual(sequence.outputs[sequence.state(n)], member(sequence, n))

    def test_zero_with_a_first_state_that_zeros_leave(self):
        sequence = Sequence(2, [[1, 2], [0, 2], [2, 2]], [4, 4, 5])
        self.assertEqual((sequence.state(0), sequence.at(0), sequence.first(1)), (0, 4, [4]))


class Least(unittest.TestCase):

    def test_plain_way(self):
        for sequence in small_sequences() + [random_sequence(seed, 2 + seed % 3, 40, 2) for seed in range(10)]:
            before = sequence_parts(sequence)
            small = least_sequence(sequence)
            self.assertEqual(sequence_parts(small), plain_least_parts(sequence))
            self.assertEqual(small.first(100), sequence.first(100))
            self.assertEqual(small.rows[0][0], 0)
            self.assertIsInstance(small, Sequence)
            self.assertEqual(sequence_parts(sequence), before)

    def test_unreached_and_doubled_states(self):
        for seed in range(40):
            sequence = random_sequence(seed, 2 + seed % 3, 1 + seed % 9)
            self.assertEqual(
                sequence_parts(least_sequence(doubled_sequence(sequence, seed))),
                sequence_parts(least_sequence(sequence)))

    def test_order_of_the_numbers(self):
        # The digits 1 and 2 lead from the first state to 3 and 1: so these become 1 and 2.
        sequence = Sequence(3, [[0, 3, 1], [2, 2, 1], [2, 0, 2], [3, 1, 0]], [0, 1, 2, 3])
        self.assertEqual(
            sequence_parts(least_sequence(sequence)),
            (3, ((0, 1, 2), (1, 2, 0), (3, 3, 2), (3, 0, 3)), (0, 3, 1, 2)))

    def test_zero_leads_from_the_first_state_to_itself(self):
        sequence = Sequence(2, [[1, 2], [0, 2], [2, 2]], [4, 4, 5])
        self.assertEqual(sequence_parts(least_sequence(sequence)), (2, ((0, 1), (1, 1)), (4, 5)))

    def test_great_ones(self):
        ring = [[(2 * state + digit) % 1999 for digit in range(2)] for state in range(1999)]
        told = Sequence(2, ring, [0] * 1998 + [1])
        self.assertEqual(least_sequence(told).size(), 1999)
        self.assertEqual(least_sequence(Sequence(2, ring, [3] * 1999)).size(), 1)

    def test_new_one(self):
        self.assertIsNot(least_sequence(thue_morse()), thue_morse())
        sequence = thue_morse()
        self.assertIsNot(least_sequence(sequence), sequence)


class Comparing(unittest.TestCase):

    def check(self, first, second, many):
        found = differing(first, second)
        plain = [n for n in range(many) if member(first, n) != member(second, n)]
        self.assertEqual(found, plain[0] if plain else None)
        self.assertEqual(same(first, second), not plain)
        self.assertIsInstance(same(first, second), bool)
        return found

    def test_against_trying_out(self):
        source = random.Random(5)
        told = set()
        for seed in range(300):
            base = 2 + seed % 3
            first = random_sequence(seed, base, source.randrange(1, 5), 2)
            outputs = list(first.outputs)
            outputs[source.randrange(len(outputs))] = source.randrange(2)
            second = doubled_sequence(Sequence(base, first.rows, outputs), seed)
            # A word that parts two states has less digits than both have states, doubled ones apart.
            told.add(self.check(first, second, base ** 5))
            told.add(self.check(second, first, base ** 5))
        self.assertIn(None, told)
        self.assertGreater(len(told), 8)

    def test_same_members_by_other_states(self):
        for seed, sequence in enumerate(small_sequences()):
            self.assertTrue(same(sequence, least_sequence(sequence)))
            self.assertTrue(same(sequence, sequence))
            self.assertIsNone(differing(least_sequence(sequence), sequence))

    def test_least_number(self):
        for loop in (3, 7, 19):
            for at in range(20):
                front = tuple([n % loop % 2 for n in range(20)])
                other = front[:at] + (2,) + front[at + 1:]
                rest = tuple([(20 + n) % loop % 2 for n in range(loop)])
                for base in (2, 3, 4):
                    self.assertEqual(differing(repeating(base, front, rest), repeating(base, other, rest)), at)

    def test_zero(self):
        self.assertEqual(differing(residues(3, 1), Sequence(3, [[0, 0, 0]], [1])), 0)

    def test_great_least_number(self):
        # A chain of ones of a great length, behind which the outputs differ.
        size = 1999
        rows = [[0, 1]] + [[size, min(at + 1, size)] for at in range(1, size)] + [[size, size]]
        first = Sequence(2, rows, [0] * (size + 1))
        second = Sequence(2, rows, [0] * (size - 1) + [1, 0])
        self.assertEqual(differing(first, second), 2 ** (size - 1) - 1)
        self.assertFalse(same(first, second))

    def test_order_of_numbers_of_the_same_length(self):
        # Unlike at 110 and at 101 in base 2: 101 comes first.
        rows = [[0, 1], [2, 3], [4, 5], [6, 4], [4, 4], [4, 4], [4, 4]]
        zero = Sequence(2, [[0, 0]], [0])
        self.assertEqual(differing(zero, Sequence(2, rows, [0, 0, 0, 0, 0, 1, 1])), 5)
        self.assertEqual(differing(Sequence(2, rows, [0, 0, 0, 0, 0, 0, 1]), zero), 6)

    def test_other_base(self):
        for first, second in itertools.permutations((2, 3, 4), 2):
            for compare in (same, differing):
                with self.assertRaises(OtherBase):
                    compare(residues(first, 2), residues(second, 2))


if __name__ == "__main__":
    unittest.main()
