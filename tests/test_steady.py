"""2.4 to 2.6: steady automata."""

import unittest

from automatics.automaton import Automaton, same
from automatics.basic import equal, less, multiple, power
from automatics.combine import both, either, everything, nothing, opposite, placed
from automatics.digits import takes
from automatics.errors import TooMany
from automatics.least import least
from automatics.steady import is_steady, steadied
from tests.helpers import parts_of, plain_least, random_automaton, ring, small_automata, words_up_to


def looks_steady(automaton, length):
    """Whether no word of at most this length is told from that with zeros in front."""
    zeros = ((0,) * automaton.tracks,)
    return all(
        automaton.accepts(word) == automaton.accepts(zeros + word)
        for word in words_up_to(automaton.base, automaton.tracks, length))


def accepts_somehow(automaton, word):
    """Whether a word is accepted with some number of zeros in front."""
    zeros = ((0,) * automaton.tracks,)
    return any(automaton.accepts(zeros * many + word) for many in range(automaton.size + 1))


def two_rings(short, long, tail):
    """An automaton whose sets are 2 + short * long + long + tail, if the lengths have no common divisor.

    Letters of zeros reach the states 0 and 1. The letters 0 and 1 lead from
    these into two rings, and 2 leads from everywhere into a tail.
    """
    end = 2 + short + long
    rows = [[1, 2, end], [1, 2 + short, end]]
    rows.extend([2 + (at + 1) % short] * 2 + [end] for at in range(short))
    rows.extend([2 + short + (at + 1) % long] * 2 + [end] for at in range(long))
    rows.extend([min(end + at + 1, end + tail - 1)] * 3 for at in range(tail))
    return Automaton(3, 1, rows, [2, end])


class Steady(unittest.TestCase):

    def test_against_trying_out(self):
        told = set()
        for automaton in small_automata():
            steady = is_steady(automaton)
            told.add(steady)
            self.assertIsInstance(steady, bool)
            # With no more than 7 states, words of this length tell all that are not alike.
            length = 6 if automaton.base ** automaton.tracks <= 4 else 3
            if steady:
                self.assertTrue(looks_steady(automaton, length))
            elif length == 6:
                self.assertFalse(looks_steady(automaton, length))
        self.assertEqual(told, {True, False})

    def test_zeros_stay(self):
        self.assertTrue(is_steady(Automaton(2, 1, [(0, 1), (1, 0)], [1])))

    def test_zeros_lead_to_another_state_that_is_alike(self):
        self.assertTrue(is_steady(Automaton(2, 1, [(1, 2), (0, 2), (2, 2)], [0, 1])))
        self.assertTrue(is_steady(Automaton(2, 1, [(1, 2), (3, 4), (2, 2), (1, 2), (4, 4)], [2, 4])))

    def test_zeros_lead_to_a_state_that_is_not_alike(self):
        self.assertFalse(is_steady(Automaton(2, 1, [(1, 2), (1, 2), (2, 2)], [0])))
        self.assertFalse(is_steady(Automaton(2, 1, [(1, 2), (1, 1), (2, 2)], [2])))
        self.assertFalse(is_steady(ring(2)))

    def test_no_tracks(self):
        self.assertTrue(is_steady(everything(2, 0)))
        self.assertTrue(is_steady(nothing(2, 0)))
        self.assertFalse(is_steady(Automaton(2, 0, [(1,), (0,)], [0])))

    def test_argument_is_not_changed(self):
        automaton = random_automaton(3, 2, 1, 6)
        before = parts_of(automaton)
        is_steady(automaton)
        steadied(automaton)
        self.assertEqual(parts_of(automaton), before)


class Steadied(unittest.TestCase):

    def test_against_trying_out(self):
        for automaton in small_automata():
            found = steadied(automaton)
            self.assertEqual((found.base, found.tracks), (automaton.base, automaton.tracks))
            self.assertEqual(parts_of(found), parts_of(plain_least(found)))
            for word in words_up_to(automaton.base, automaton.tracks, 3):
                self.assertEqual(found.accepts(word), accepts_somehow(automaton, word))

    def test_steady_ones_stay_but_for_being_least(self):
        told = 0
        for automaton in small_automata():
            if is_steady(automaton):
                told += 1
                self.assertTrue(same(steadied(automaton), least(automaton)))
        self.assertGreater(told, 10)
        for automaton in (less(3), equal(2), multiple(2, 12, 5), power(4)):
            again = steadied(automaton)
            self.assertTrue(same(again, automaton))
            self.assertIsNot(again, automaton)

    def test_steady_if_zeros_in_front_keep_words(self):
        # Accepts a word of at least three letters that ends with a one: it must have zeros in front.
        automaton = Automaton(2, 1, [(1, 1), (2, 2), (2, 3), (2, 3)], [3])
        self.assertFalse(is_steady(automaton))
        found = steadied(automaton)
        self.assertTrue(is_steady(found))
        self.assertTrue(same(found, multiple(2, 2, 1)))

    def test_number_of_sets(self):
        # 2 + 7 * 600 + 600 + 198 = 5000
        self.assertEqual(two_rings(7, 600, 198).size, 807)
        steadied(two_rings(7, 600, 198))
        with self.assertRaises(TooMany):
            steadied(two_rings(7, 600, 199))
        with self.assertRaises(TooMany):
            steadied(two_rings(71, 73, 1))

    def test_the_rings_against_trying_out(self):
        automaton = two_rings(2, 3, 2)
        found = steadied(automaton)
        for word in words_up_to(3, 1, 6):
            self.assertEqual(found.accepts(word), accepts_somehow(automaton, word))

    def test_many_states_but_few_sets(self):
        automaton = ring(5000)
        self.assertTrue(same(steadied(automaton), everything(2, 1)))


class Together(unittest.TestCase):

    def test_steady_and_as_the_names_say(self):
        first, second = less(2), multiple(2, 3, 1)
        wide = placed(second, 2, (1,))
        for automaton, rule in (
                (opposite(first), lambda x, y: not x < y),
                (wide, lambda x, y: y % 3 == 1),
                (both(first, wide), lambda x, y: x < y and y % 3 == 1),
                (either(first, wide), lambda x, y: x < y or y % 3 == 1),
                (placed(first, 2, (1, 0)), lambda x, y: y < x),
                (placed(first, 2, (0, 0)), lambda x, y: False)):
            self.assertTrue(is_steady(automaton))
            for x in range(12):
                for y in range(12):
                    self.assertEqual(takes(automaton, (x, y)), rule(x, y))


if __name__ == "__main__":
    unittest.main()
