"""1.9, 1.10, 1.12: automata put together."""

import unittest

from automatics.automaton import Automaton, letters, same
from automatics.combine import both, either, everything, nothing, opposite, placed, product
from automatics.errors import AutomaticError, BadAutomaton, TooMany
from automatics.least import alike, first_word, least
from tests.helpers import (
    NO_INTEGERS, language, pairs_of_automata, parts_of, plain_least, random_automaton, ring, small_automata,
    words_up_to)


def plain_product(first, second):
    """The pairs in the order of the first words, and their rows."""
    pairs = [(0, 0)]
    rows = []
    for one, other in pairs:
        steps = list(zip(first.rows[one], second.rows[other]))
        pairs.extend(pair for pair in dict.fromkeys(steps) if pair not in pairs)
        rows.append(steps)
    return pairs, tuple(tuple(pairs.index(pair) for pair in row) for row in rows)


class Product(unittest.TestCase):

    def test_states_rows_and_pairs(self):
        for first, second in pairs_of_automata(20):
            pairs, rows = plain_product(first, second)
            for way, rule in (("both", all), ("either", any)):
                automaton, found = product(first, second, way)
                self.assertEqual(found, pairs)
                self.assertIsInstance(found, list)
                self.assertEqual({type(pair) for pair in found}, {tuple})
                self.assertEqual(automaton.rows, rows)
                self.assertEqual((automaton.base, automaton.tracks), (first.base, first.tracks))
                accepting = tuple(
                    at for at, (one, other) in enumerate(pairs)
                    if rule((one in first.accepting, other in second.accepting)))
                self.assertEqual(automaton.accepting, accepting)

    def test_returns_a_pair(self):
        told = product(ring(2), ring(3), "both")
        self.assertIsInstance(told, tuple)
        self.assertEqual(len(told), 2)

    def test_not_made_least(self):
        one = Automaton(2, 1, [(1, 1), (0, 0)], [])
        automaton, pairs = product(one, one, "either")
        self.assertEqual(pairs, [(0, 0), (1, 1)])
        self.assertEqual(automaton.size, 2)

    def test_unlike_base_or_tracks(self):
        shapes = ((2, 1), (3, 1), (2, 2), (4, 1), (2, 0), (3, 0))
        for first in shapes:
            for second in shapes:
                if first == second:
                    continue
                one, other = nothing(*first), nothing(*second)
                for call in (lambda: product(one, other, "both"), lambda: product(one, other, "either"),
                             lambda: both(one, other), lambda: either(one, other)):
                    with self.subTest(first=first, second=second), self.assertRaises(BadAutomaton):
                        call()

    def test_unlike_base_comes_before_too_many(self):
        with self.assertRaises(BadAutomaton):
            both(ring(71, 2, 0), ring(73, 3, 0))

    def test_too_many(self):
        # Rings of 71 and 73 have 5183 pairs, and those of 70 and 71 have 4970.
        for call in (both, either, lambda one, other: product(one, other, "both"),
                     lambda one, other: product(one, other, "either")):
            with self.assertRaises(TooMany):
                call(ring(71), ring(73))
            call(ring(70), ring(71))

    def test_exactly_as_many_as_allowed(self):
        self.assertEqual(len(product(ring(8), ring(625), "both")[1]), 5000)
        self.assertEqual(both(ring(8), ring(625)).size, 5000)
        self.assertEqual(either(ring(8, accepting=[]), ring(625)).size, 625)
        with self.assertRaises(TooMany):
            # 3 * 1667 = 5001
            product(ring(3), ring(1667), "either")

    def test_too_many_also_if_the_least_ones_have_few(self):
        everywhere = ring(71, accepting=range(71))
        with self.assertRaises(TooMany):
            both(everywhere, ring(73))

    def test_many_states_but_few_pairs(self):
        self.assertTrue(alike(both(ring(5000), ring(5000)), ring(5000)))

    def test_errors(self):
        for error in (BadAutomaton, TooMany):
            self.assertTrue(issubclass(error, AutomaticError) and issubclass(error, ValueError))


class Together(unittest.TestCase):

    def test_both_and_either(self):
        for first, second in pairs_of_automata(20):
            one, other = set(language(first, 3)), set(language(second, 3))
            for call, words in ((both, one & other), (either, one | other)):
                found = call(first, second)
                self.assertEqual(set(language(found, 3)), words)
                self.assertEqual(parts_of(found), parts_of(plain_least(found)))

    def test_opposite(self):
        for automaton in small_automata():
            found = opposite(automaton)
            accepted = set(language(automaton, 3))
            words = [word for word in words_up_to(automaton.base, automaton.tracks, 3) if word not in accepted]
            self.assertEqual(language(found, 3), words)
            self.assertEqual(parts_of(found), parts_of(plain_least(found)))
            self.assertTrue(same(opposite(found), least(automaton)))

    def test_nothing_and_everything(self):
        for base in (2, 3, 4):
            for tracks in range(6):
                row = (0,) * base ** tracks
                self.assertEqual(parts_of(nothing(base, tracks)), (base, tracks, (row,), ()))
                self.assertEqual(parts_of(everything(base, tracks)), (base, tracks, (row,), (0,)))

    def test_wrong_base_or_tracks(self):
        for call in (nothing, everything):
            for base in NO_INTEGERS + (0, 1, 5, 2.0):
                with self.subTest(base=base), self.assertRaises(BadAutomaton):
                    call(base, 1)
            for tracks in NO_INTEGERS + (6, 2.0):
                with self.subTest(tracks=tracks), self.assertRaises(BadAutomaton):
                    call(2, tracks)

    def test_together_with_the_opposite(self):
        for automaton in small_automata():
            shape = (automaton.base, automaton.tracks)
            self.assertTrue(same(both(automaton, opposite(automaton)), nothing(*shape)))
            self.assertTrue(same(either(automaton, opposite(automaton)), everything(*shape)))

    def test_arguments_are_not_changed(self):
        first, second = random_automaton(1, 2, 2, 5), random_automaton(2, 2, 2, 5)
        before = parts_of(first), parts_of(second)
        for call in (both, either, lambda one, other: product(one, other, "both")):
            call(first, second)
        opposite(first)
        places = (1, 0)
        placed(first, 3, places)
        self.assertEqual((parts_of(first), parts_of(second)), before)
        self.assertEqual(places, (1, 0))


class Placed(unittest.TestCase):

    def check(self, automaton, tracks, places, length=2):
        found = placed(automaton, tracks, places)
        self.assertEqual((found.base, found.tracks), (automaton.base, tracks))
        words = [
            word for word in words_up_to(automaton.base, tracks, length)
            if automaton.accepts(tuple(tuple(letter[place] for place in places) for letter in word))]
        self.assertEqual(language(found, length), words)
        self.assertEqual(parts_of(found), parts_of(plain_least(found)))

    def test_other_order_twice_and_not_at_all(self):
        for seed in range(8):
            automaton = random_automaton(seed, 2, 2, 4)
            for tracks, places in (
                    (2, (0, 1)), (2, (1, 0)), (2, (0, 0)), (2, (1, 1)), (1, (0, 0)), (3, (2, 0)), (3, (1, 1)), (4, (3, 1))):
                self.check(automaton, tracks, places)

    def test_three_tracks(self):
        for base in (2, 3):
            automaton = random_automaton(4, base, 3, 5)
            for tracks, places in ((3, (2, 0, 1)), (2, (0, 1, 0)), (1, (0, 0, 0)), (3, (1, 1, 2))):
                self.check(automaton, tracks, places)

    def test_no_tracks(self):
        for base in (2, 3, 4):
            for seed in range(5):
                automaton = random_automaton(seed, base, 0, 4)
                self.check(automaton, 0, (), 6)
                self.check(automaton, 1, (), 3)
                self.check(automaton, 2, ())

    def test_all_tracks(self):
        automaton = random_automaton(9, 2, 5, 6)
        self.check(automaton, 5, (4, 2, 0, 1, 3), 1)
        self.check(random_automaton(2, 4, 1, 6), 5, (3,), 1)

    def test_places_as_they_are(self):
        for automaton in small_automata():
            self.assertTrue(same(placed(automaton, automaton.tracks, tuple(range(automaton.tracks))), least(automaton)))

    def test_wrong_tracks(self):
        for tracks in NO_INTEGERS + (6, 7, 2.0):
            with self.subTest(tracks=tracks):
                with self.assertRaises(BadAutomaton):
                    placed(nothing(2, 1), tracks, (0,))
                with self.assertRaises(BadAutomaton):
                    placed(nothing(2, 0), tracks, ())

    def test_wrong_places(self):
        wrong = [value for value in NO_INTEGERS if value != (1,)] + [
            0, "01", [0, 1], (0,), (0, 1, 2), (0, 3), (3, 0), (-1, 0), (0, -1), (True, 0), (0, False), (0, 1.0),
            (0, "1"), (0, None), ((0,), (1,)), (0, [1]), {0, 1}, {0: 1, 1: 0}, range(2), b"\x00\x01"]
        for places in wrong:
            with self.subTest(places=places), self.assertRaises(BadAutomaton):
                placed(nothing(2, 2), 3, places)

    def test_places_for_no_tracks(self):
        with self.assertRaises(BadAutomaton):
            placed(nothing(2, 1), 0, (0,))
        with self.assertRaises(BadAutomaton):
            placed(nothing(2, 1), 0, ())
        with self.assertRaises(BadAutomaton):
            placed(nothing(2, 0), 1, (0,))


class Example(unittest.TestCase):

    def test_odd_number_of_ones(self):
        automaton = Automaton(2, 1, [(0, 1), (1, 0)], [1])
        for word in words_up_to(2, 1, 6):
            self.assertEqual(automaton.accepts(word), sum(letter[0] for letter in word) % 2 == 1)
        self.assertEqual(first_word(automaton), ((1,),))
        found = placed(automaton, 2, (1,))
        self.assertEqual(found.rows, ((0, 1, 0, 1), (1, 0, 1, 0)))
        self.assertEqual(found.accepting, (1,))
        self.assertEqual(letters(2, 2), [(0, 0), (0, 1), (1, 0), (1, 1)])


if __name__ == "__main__":
    unittest.main()
