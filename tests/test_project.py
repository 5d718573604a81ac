"""5.3: automata of look-ups, and leaving out a track."""

import itertools
import unittest

from automatics.automaton import Automaton, same
from automatics.basic import constant, equal, less, linear, multiple, power, top_power, total
from automatics.combine import both, everything, nothing, placed
from automatics.digits import takes
from automatics.errors import BadAutomaton, OtherBase, TooMany
from automatics.knownseq import paper_folding, powers, residues, rudin_shapiro, thue_morse
from automatics.least import least
from automatics.project import left_out, looked, looked_both
from automatics.sequence import Sequence
from automatics.steady import is_steady
from tests.helpers import (
    NO_INTEGERS, made_steady, member, parts_of, plain_least, residue_rows, sequence_parts, small_sequences)

KNOWN = (thue_morse(), rudin_shapiro(), paper_folding(), powers(3), powers(4), residues(2, 3), residues(3, 4))


def some_number(automaton, track, numbers, digits):
    """Whether some number of at most so many digits makes a row a told one."""
    return any(
        takes(automaton, numbers[:track] + (number,) + numbers[track:])
        for number in range(automaton.base ** digits))


def rings_by_track(short, long, tail):
    """A steady automaton whose sets are 1 + short * long + tail if the track 1 is left out.

    On track 0 only zeros keep state 0; a one leads into one of two rings, which
    the other track tells, and a two leads from everywhere into a tail.
    """
    end = 1 + short + long
    rows = [[0] * 3 + [1, 1 + short, 1 + short] + [end] * 3]
    rows.extend([1 + (at + 1) % short] * 6 + [end] * 3 for at in range(short))
    rows.extend([1 + short + (at + 1) % long] * 6 + [end] * 3 for at in range(long))
    rows.extend([min(end + at + 1, end + tail - 1)] * 9 for at in range(tail))
    return Automaton(3, 2, rows, [1, end])


class Looked(unittest.TestCase):

    def test_against_the_members(self):
        for sequence in small_sequences() + list(KNOWN):
            for output in (0, 1, 2, 7, 9):
                found = looked(sequence, output)
                self.assertEqual((found.base, found.tracks), (sequence.base, 1))
                self.assertEqual(parts_of(found), parts_of(plain_least(found)))
                self.assertTrue(is_steady(found))
                for n in range(60):
                    self.assertEqual(takes(found, (n,)), member(sequence, n) == output)

    def test_zeros_in_front(self):
        for sequence in KNOWN:
            for output in (0, 1):
                found = looked(sequence, output)
                self.assertEqual(found.accepts(((0,), (0,), (1,), (0,))), member(sequence, sequence.base) == output)
                self.assertEqual(found.accepts(((0,), (0,))), member(sequence, 0) == output)

    def test_each_output(self):
        rows = residue_rows(2, 10)
        for output in range(10):
            self.assertTrue(same(looked(Sequence(2, rows, list(range(10))), output), multiple(2, 10, output)))

    def test_an_output_that_is_none(self):
        self.assertTrue(same(looked(thue_morse(), 5), nothing(2, 1)))

    def test_sequence_is_not_changed(self):
        sequence = rudin_shapiro()
        before = sequence_parts(sequence)
        looked(sequence, 1)
        looked_both(sequence, sequence)
        self.assertEqual(sequence_parts(sequence), before)


class LookedBoth(unittest.TestCase):

    def test_against_the_members(self):
        for first, second in itertools.product(small_sequences()[::3] + list(KNOWN), repeat=2):
            if first.base != second.base:
                continue
            found = looked_both(first, second)
            self.assertEqual((found.base, found.tracks), (first.base, 2))
            self.assertEqual(parts_of(found), parts_of(plain_least(found)))
            for m, n in itertools.product(range(9), repeat=2):
                self.assertEqual(takes(found, (m, n)), member(first, m) == member(second, n))

    def test_the_first_track_is_that_of_the_first_sequence(self):
        found = looked_both(powers(2), residues(2, 2))
        self.assertTrue(takes(found, (2, 1)))
        self.assertFalse(takes(found, (1, 2)))

    def test_zeros_in_front(self):
        found = looked_both(thue_morse(), paper_folding())
        zeros = ((0, 0),) * 3
        for word in (((1, 0),), ((0, 1),), ((1, 1), (0, 1)), ()):
            self.assertEqual(found.accepts(zeros + word), found.accepts(word))

    def test_other_base(self):
        with self.assertRaises(OtherBase):
            looked_both(thue_morse(), powers(3))
        with self.assertRaises(OtherBase):
            looked_both(powers(4), thue_morse())
        with self.assertRaises(OtherBase):
            looked_both(Sequence(2, residue_rows(2, 71), [0] * 71), Sequence(3, residue_rows(3, 73), [0] * 73))

    def test_number_of_pairs(self):
        def long(size):
            return Sequence(2, residue_rows(2, size), [n % 10 for n in range(size)])
        self.assertEqual(looked_both(long(50), long(100)).base, 2)
        with self.assertRaises(TooMany):
            looked_both(long(50), long(101))


class LeftOut(unittest.TestCase):

    def check(self, automaton, digits, most):
        """Compares with trying all numbers of at most so many digits."""
        for track in range(automaton.tracks):
            found = left_out(automaton, track)
            self.assertEqual((found.base, found.tracks), (automaton.base, automaton.tracks - 1))
            self.assertEqual(parts_of(found), parts_of(plain_least(found)))
            self.assertTrue(is_steady(found))
            for numbers in itertools.product(range(most), repeat=automaton.tracks - 1):
                self.assertEqual(takes(found, numbers), some_number(automaton, track, numbers, digits))

    def test_drawn_ones(self):
        # With 4 states, if any number will do, then one of at most 3 digits more than the others have.
        for base, tracks, most in ((2, 1, 0), (2, 2, 8), (2, 3, 4), (3, 1, 0), (3, 2, 9), (4, 1, 0), (4, 2, 4)):
            for seed in range(12):
                self.check(made_steady(seed, base, tracks, 1 + seed % 4), {2: 6, 3: 5, 4: 4}[base], most)

    def test_automata_that_reckon(self):
        for base in (2, 3, 4):
            digits = {2: 5, 3: 4, 4: 3}[base]
            self.check(less(base), digits, 9)
            self.check(equal(base), digits, 9)
            self.check(top_power(base), digits, 9)
            self.check(linear(base, (1, -2), 1, "="), digits, 9)
            self.check(total(base), digits, 5)

    def test_each_track(self):
        # x + 2 * y = z + 3: each of the tracks tells something else.
        automaton = linear(2, (1, 2, -1), -3, "=")
        for track, rule in (
                (0, lambda y, z: 2 * y <= z + 3), (1, lambda x, z: z + 3 >= x and (z + 3 - x) % 2 == 0),
                (2, lambda x, y: x + 2 * y >= 3)):
            found = left_out(automaton, track)
            for numbers in itertools.product(range(10), repeat=2):
                self.assertEqual(takes(found, numbers), rule(*numbers))

    def test_first_and_last_of_five_tracks(self):
        automaton = linear(2, (1, 1, 1, 1, -1), 0, "=")
        self.assertTrue(same(left_out(automaton, 4), everything(2, 4)))
        found = left_out(automaton, 0)
        for numbers in itertools.product(range(4), repeat=4):
            self.assertEqual(takes(found, numbers), sum(numbers[:3]) <= numbers[3])

    def test_numbers_with_more_digits_than_all_others(self):
        # Of these numbers only one is told, which has many digits.
        for automaton, great in ((constant(2, 10 ** 9), 10 ** 9), (constant(3, 3 ** 15), 3 ** 15)):
            wide = both(placed(automaton, 2, (1,)), placed(everything(automaton.base, 1), 2, (0,)))
            self.assertTrue(takes(wide, (0, great)))
            self.assertTrue(same(left_out(wide, 1), everything(automaton.base, 1)))
            self.assertTrue(same(left_out(automaton, 0), everything(automaton.base, 0)))
        # y is a power of 2 above 2 ** 20 * x.
        far = both(linear(2, (20, -1), 0, "<"), placed(power(2), 2, (1,)))
        self.assertTrue(same(left_out(far, 1), everything(2, 1)))

    def test_one_track(self):
        for base in (2, 3, 4):
            self.assertTrue(same(left_out(everything(base, 1), 0), everything(base, 0)))
            self.assertTrue(same(left_out(nothing(base, 1), 0), nothing(base, 0)))
            self.assertTrue(same(left_out(constant(base, 0), 0), everything(base, 0)))

    def test_what_is_not_least(self):
        wide = Automaton(2, 2, [(1, 2, 2, 2), (0, 2, 2, 2), (3, 3, 3, 2), (2, 2, 2, 3)], [0, 1])
        self.assertTrue(same(left_out(wide, 0), left_out(least(wide), 0)))
        self.assertTrue(same(left_out(wide, 1), constant(2, 0)))

    def test_no_such_track(self):
        for track in (2, 3, -1, *NO_INTEGERS):
            with self.assertRaises(BadAutomaton):
                left_out(less(2), track)
        for track in (0, *NO_INTEGERS):
            with self.assertRaises(BadAutomaton):
                left_out(everything(2, 0), track)

    def test_number_of_sets(self):
        # 1 + 7 * 600 + 799 = 5000
        self.assertEqual(left_out(rings_by_track(7, 600, 799), 1).tracks, 1)
        with self.assertRaises(TooMany):
            left_out(rings_by_track(7, 600, 800), 1)

    def test_the_rings_against_trying_out(self):
        self.check(rings_by_track(2, 3, 2), 4, 60)

    def test_many_states_but_few_sets(self):
        rows = [[0, 1]] + [[n, (n + 1) % 5000] for n in range(1, 5000)]
        self.assertTrue(same(left_out(Automaton(2, 1, rows, [4999]), 0), everything(2, 0)))

    def test_argument_is_not_changed(self):
        automaton = total(2)
        before = parts_of(automaton)
        left_out(automaton, 1)
        self.assertEqual(parts_of(automaton), before)


if __name__ == "__main__":
    unittest.main()
