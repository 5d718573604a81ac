"""3.5 to 3.7: sequences that are made from others, and the kernel."""

import random
import unittest

from automatics.errors import BadSequence, OtherBase, TooMany
from automatics.knownseq import (
    block_count, digit_sum, paper_folding, powers, repeating, residues, rudin_shapiro, thue_morse)
from automatics.made import kernel, mapped, paired, shifted, thinned
from automatics.sequence import Sequence, least_sequence, same
from tests.helpers import (
    NO_INTEGERS, doubled_sequence, great_numbers, member, plain_least_parts, random_sequence, sequence_parts,
    small_sequences)

COUNTS = list(range(40)) + [63, 64, 65, 80, 81, 255, 256, 500, 729, 999, 1000]
KNOWN = [
    thue_morse(), paper_folding(), powers(2), powers(3), powers(4), residues(2, 10), residues(3, 7), residues(4, 9),
    digit_sum(3, 2), repeating(2, (1, 2, 3), (4, 5, 6, 7, 8)), repeating(3, (), (1, 0)), repeating(4, (7,) * 20, (3,))]


def ring(base, size, output=lambda state: state % 10):
    """The sequence of the outputs of the residues of n by a size, not least."""
    rows = [[(base * state + digit) % size for digit in range(base)] for state in range(size)]
    return Sequence(base, rows, [output(state) for state in range(size)])


class Case(unittest.TestCase):

    def check_least(self, sequence):
        self.assertIs(type(sequence), Sequence)
        self.assertEqual(sequence_parts(sequence), plain_least_parts(sequence))

    def check_members(self, sequence, rule, seed=0, small=300):
        """Checks the members for small and for great numbers, and that the sequence is least."""
        self.assertEqual(sequence.first(small), [rule(n) for n in range(small)])
        for n in great_numbers(seed, 2):
            self.assertEqual(member(sequence, n), rule(n))
        self.check_least(sequence)


class Mapped(Case):

    def test_members(self):
        table = [3, 0, 3, 9, 1, 1, 2, 5, 8, 7]
        for seed, sequence in enumerate(small_sequences() + KNOWN):
            made = mapped(sequence, table)
            self.check_members(made, lambda n: table[member(sequence, n)], seed)
            self.assertEqual(made.base, sequence.base)

    def test_becomes_least(self):
        self.assertEqual(mapped(residues(2, 10), [4] * 10).size(), 1)
        self.assertEqual(mapped(residues(2, 10), [0, 1] * 5).size(), 2)
        self.assertEqual(sequence_parts(mapped(thue_morse(), [1, 0] + [9] * 8)), (2, ((0, 1), (1, 0)), (1, 0)))

    def test_most_states(self):
        self.assertEqual(mapped(ring(3, 2000), list(range(10))).size(), 10)
        self.assertEqual(mapped(ring(2, 1999, lambda state: state // 200), list(range(9, -1, -1))).size(), 1999)

    def test_arguments_are_not_changed(self):
        table = list(range(10))
        sequence = random_sequence(3, 2, 9)
        before = sequence_parts(sequence)
        mapped(sequence, table)
        paired(sequence, sequence, table * 10)
        shifted(sequence, 3)
        thinned(sequence, 3, 4)
        kernel(sequence)
        self.assertEqual(table, list(range(10)))
        self.assertEqual(sequence_parts(sequence), before)

    def test_wrong_tables(self):
        for table in (
                None, True, 5, 1.5, "0123456789", b"0123456789", {}, {n: n for n in range(10)}, set(range(10)),
                range(10), tuple(range(10)), iter([0] * 10), [], [0] * 9, [0] * 11, [0] * 100, [[0]] * 10):
            with self.subTest(table=table), self.assertRaises(BadSequence):
                mapped(thue_morse(), table)
        for output in NO_INTEGERS + (10, 1.0):
            for at in (0, 5, 9):
                table = [0] * 10
                table[at] = output
                with self.subTest(table=table), self.assertRaises(BadSequence):
                    mapped(thue_morse(), table)


class Paired(Case):

    def test_members(self):
        source = random.Random(2)
        sequences = small_sequences() + KNOWN
        for seed in range(80):
            first = source.choice(sequences)
            second = source.choice([other for other in sequences if other.base == first.base])
            table = [source.randrange(10) for _ in range(100)]
            made = paired(first, second, table)
            self.check_members(made, lambda n: table[10 * member(first, n) + member(second, n)], seed)

    def test_order_of_both(self):
        tens = [at // 10 for at in range(100)]
        ones = [at % 10 for at in range(100)]
        self.assertTrue(same(paired(residues(3, 4), residues(3, 5), tens), residues(3, 4)))
        self.assertTrue(same(paired(residues(3, 4), residues(3, 5), ones), residues(3, 5)))

    def test_becomes_least(self):
        self.assertEqual(paired(residues(2, 9), residues(2, 10), [3] * 100).size(), 1)

    def test_number_of_pairs(self):
        ones = [at % 10 for at in range(100)]
        # 16 * 125 is 2000, and 29 * 69 is 2001.
        made = paired(ring(3, 16), ring(3, 125, lambda state: state % 2), ones)
        self.check_members(made, lambda n: n % 125 % 2)
        with self.assertRaises(TooMany):
            paired(ring(2, 29), ring(2, 69), ones)
        # Pairs that are not reached do not count.
        self.assertEqual(paired(ring(3, 2000), ring(3, 2000), ones).size(), 10)
        self.assertEqual(paired(ring(3, 1000), ring(3, 2000), ones).size(), 10)

    def test_wrong_tables(self):
        for table in (
                None, True, 5, "0" * 100, b"0" * 100, {}, {n: 0 for n in range(100)}, range(10), (0,) * 100, [],
                [0] * 10, [0] * 99, [0] * 101, iter([0] * 100)):
            with self.subTest(table=table), self.assertRaises(BadSequence):
                paired(thue_morse(), thue_morse(), table)
        for output in NO_INTEGERS + (10, 1.0):
            for at in (0, 55, 99):
                table = [0] * 100
                table[at] = output
                with self.subTest(table=table), self.assertRaises(BadSequence):
                    paired(thue_morse(), thue_morse(), table)

    def test_order_of_errors(self):
        for table in ([0] * 100, [0] * 99, None):
            with self.assertRaises(OtherBase):
                paired(ring(2, 29), ring(3, 69), table)
            with self.assertRaises(OtherBase):
                paired(residues(4, 2), residues(2, 2), table)
        with self.assertRaises(BadSequence):
            paired(ring(2, 29), ring(2, 69), [0] * 99)


class Shifted(Case):

    def test_small_counts(self):
        for seed, sequence in enumerate(small_sequences()):
            for count in (0, 1, 2, 5):
                self.check_members(shifted(sequence, count), lambda n: member(sequence, n + count), seed, 100)

    def test_all_kinds_of_counts(self):
        for sequence in KNOWN:
            for count in COUNTS:
                self.check_members(shifted(sequence, count), lambda n: member(sequence, n + count), count, 30)

    def test_zero(self):
        for sequence in small_sequences():
            self.assertEqual(sequence_parts(shifted(sequence, 0)), sequence_parts(least_sequence(sequence)))

    def test_greatest(self):
        # The carries that are needed from 1000 on are few: not all from 0 to 1000 are kept.
        made = shifted(thue_morse(), 1000)
        self.assertEqual(made.first(3000), thue_morse().first(4000)[1000:])
        for n in great_numbers(1):
            self.assertEqual(made.at(n), thue_morse().at(n + 1000))
        self.assertEqual(made.size(), 1252)
        self.check_least(made)

    def test_too_many(self):
        for sequence in (rudin_shapiro(), digit_sum(4, 10)):
            with self.assertRaises(TooMany):
                shifted(sequence, 1000)

    def test_wrong_counts(self):
        for count in NO_INTEGERS + (1001, 1002, 2.0):
            with self.subTest(count=count), self.assertRaises(BadSequence):
                shifted(thue_morse(), count)
        with self.assertRaises(BadSequence):
            shifted(rudin_shapiro(), 1001)


class Thinned(Case):

    def test_against_reckoning(self):
        source = random.Random(9)
        for seed, sequence in enumerate(small_sequences()):
            for _ in range(4):
                step, first = source.randrange(1, 7), source.randrange(12)
                self.check_members(
                    thinned(sequence, step, first), lambda n: member(sequence, step * n + first), seed, 60)

    def test_steps_and_first_ones(self):
        for sequence in KNOWN:
            for step, first in (
                    (1, 0), (1, 1), (1, 1000), (20, 0), (20, 1), (20, 19), (20, 20), (20, 1000), (19, 7), (16, 3),
                    (2, 0), (2, 1), (3, 2), (4, 3), (7, 100)):
                self.check_members(
                    thinned(sequence, step, first), lambda n: member(sequence, step * n + first), first, 60)

    def test_all_steps(self):
        for base in (2, 3, 4):
            sequence = repeating(base, tuple(range(10)), (3, 1, 4, 1, 5, 9, 2))
            for step in range(1, 21):
                self.check_members(
                    thinned(sequence, step, 2), lambda n: member(sequence, step * n + 2), step, 30)

    def test_first_state_that_zeros_leave(self):
        for seed in range(20):
            sequence = doubled_sequence(random_sequence(seed, 2 + seed % 3, 4), seed)
            self.check_members(thinned(sequence, 3, 5), lambda n: member(sequence, 3 * n + 5), seed, 60)

    def test_many_states(self):
        made = thinned(rudin_shapiro(), 20, 1000)
        self.assertEqual(made.size(), 1992)
        for n in list(range(200)) + great_numbers(4):
            self.assertEqual(made.at(n), rudin_shapiro().at(20 * n + 1000))

    def test_number_of_states(self):
        # For a ring, there is a state for each residue: never more than the ring has.
        self.assertEqual(thinned(ring(3, 2000), 7, 999).first(50), [(7 * n + 999) % 2000 % 10 for n in range(50)])
        for sequence in (rudin_shapiro(), block_count(3, (1, 2, 0), 10)):
            with self.assertRaises(TooMany):
                thinned(sequence, 19, 999)

    def test_wrong_steps_and_first_ones(self):
        for step in NO_INTEGERS + (0, 21, 22, 2.0):
            with self.subTest(step=step), self.assertRaises(BadSequence):
                thinned(thue_morse(), step, 0)
        for first in NO_INTEGERS + (1001, 1002, 2.0):
            with self.subTest(first=first), self.assertRaises(BadSequence):
                thinned(thue_morse(), 1, first)

    def test_too_many_comes_last(self):
        for step, first in ((0, 1000), (21, 1000), (19, 1001), (None, 1000), (19, None)):
            with self.assertRaises(BadSequence):
                thinned(rudin_shapiro(), step, first)


def plain_kernel(sequence):
    """The parts of the members of the kernel, found as 3.7 tells it."""
    found = [least_sequence(sequence)]
    for one in found:
        for rest in range(sequence.base):
            made = thinned(one, sequence.base, rest)
            if not any(same(made, other) for other in found):
                found.append(made)
    return [sequence_parts(made) for made in found]


class Kernel(Case):

    def check(self, sequence):
        found = kernel(sequence)
        self.assertIs(type(found), list)
        self.assertEqual([sequence_parts(made) for made in found], plain_kernel(sequence))
        for made in found:
            self.check_least(made)
        return len(found)

    def test_drawn_ones(self):
        sizes = {self.check(random_sequence(seed, base, 3, 2)) for base in (2, 3, 4) for seed in range(8)}
        self.assertGreater(len(sizes), 5)

    def test_states_that_are_alike_or_not_reached(self):
        for seed in range(6):
            sequence = random_sequence(seed, 2, 3, 2)
            self.check(doubled_sequence(sequence, seed))
            self.assertEqual(
                [sequence_parts(made) for made in kernel(doubled_sequence(sequence, seed))],
                [sequence_parts(made) for made in kernel(sequence)])

    def test_known_ones(self):
        for sequence, size in (
                (thue_morse(), 2), (rudin_shapiro(), 4), (paper_folding(), 4), (powers(2), 3), (powers(4), 3),
                (residues(3, 7), 42), (residues(2, 1), 1), (digit_sum(2, 10), 10), (digit_sum(4, 3), 3)):
            self.assertEqual(self.check(sequence), size)

    def test_members_by_their_numbers(self):
        base = 3
        sequence = repeating(base, (4, 4, 1), (0, 1, 2, 1))
        found = [made.first(40) for made in kernel(sequence)]
        for power in (1, 3, 9, 27):
            for rest in range(power):
                self.assertIn([member(sequence, power * n + rest) for n in range(40)], found)

    def test_number_of_members(self):
        # The multiples of a number that has no divisor in common with the base: it has as many members as the number.
        for base, size in ((3, 200), (2, 199), (4, 195)):
            self.assertEqual(len(kernel(ring(base, size, lambda state: int(state == 0)))), size)
        for base, size in ((2, 201), (4, 201), (3, 202), (2, 1999)):
            with self.assertRaises(TooMany):
                kernel(ring(base, size, lambda state: int(state == 0)))

    def test_many_states_but_few_members(self):
        # The first 1000 numbers have ones: each member ends in zeros, and there is one for each length.
        rows = [[min(4 * at + digit, 1000) for digit in range(4)] for at in range(1001)]
        sequence = Sequence(4, rows, [1] * 1000 + [0])
        self.assertEqual([sum(made.first(1001)) for made in kernel(sequence)], [1000, 250, 63, 62, 16, 15, 4, 3, 1, 0])


if __name__ == "__main__":
    unittest.main()
