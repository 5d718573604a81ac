"""1.6 to 1.8: the least automaton, folding, comparing languages."""

import random
import unittest

from automatics.automaton import Automaton, same
from automatics.errors import BadAutomaton
from automatics.least import alike, first_word, folding, least, parting_word
from tests.helpers import (
    counter, language, pairs_of_automata, parts_of, plain_classes, plain_folding, plain_least, random_automaton,
    reached_in_order, ring, small_automata)


def doubled(automaton, seed):
    """An automaton with the same language, in which each state stands twice and some states are not reached."""
    source = random.Random(seed)
    size = automaton.size
    rows = [[target + size * source.randrange(2) for target in row] for row in automaton.rows * 2]
    rows.append([source.randrange(2 * size + 1) for _ in rows[0]])
    accepting = [state + lift for state in automaton.accepting for lift in (0, size)] + [2 * size]
    return Automaton(automaton.base, automaton.tracks, rows, accepting)


def shuffled(automaton, seed):
    """The automaton with the numbers of the states other than 0 exchanged."""
    others = list(range(1, automaton.size))
    random.Random(seed).shuffle(others)
    numbers = [0] + others
    rows = [None] * automaton.size
    for state, row in enumerate(automaton.rows):
        rows[numbers[state]] = [numbers[target] for target in row]
    return Automaton(automaton.base, automaton.tracks, rows, [numbers[state] for state in automaton.accepting])


class Least(unittest.TestCase):

    def test_plain_way(self):
        for automaton in small_automata():
            self.assertEqual(parts_of(least(automaton)), parts_of(plain_least(automaton)))

    def test_same_language_reached_and_not_alike(self):
        for automaton in small_automata():
            small = least(automaton)
            self.assertEqual(language(small, 3), language(automaton, 3))
            self.assertEqual(reached_in_order(small), list(range(small.size)))
            self.assertEqual(len(set(plain_classes(small))), small.size)

    def test_unreached_and_doubled_states(self):
        for seed, automaton in enumerate(small_automata()):
            self.assertTrue(same(least(doubled(automaton, seed)), least(automaton)))

    def test_order_of_the_numbers_does_not_depend_on_the_given_ones(self):
        for seed in range(30):
            automaton = random_automaton(seed, 2, 2, 12)
            self.assertTrue(same(least(shuffled(automaton, seed)), least(automaton)))

    def test_least_ones_stay_and_are_new(self):
        for automaton in small_automata():
            small = least(automaton)
            again = least(small)
            self.assertTrue(same(again, small))
            self.assertIsNot(again, small)

    def test_order_of_the_numbers(self):
        # The letter 0 leads to state 3 and the letter 1 to state 1: so they become 1 and 2.
        automaton = Automaton(2, 1, [(3, 1), (2, 1), (2, 2), (3, 0)], [1])
        self.assertEqual(parts_of(least(automaton)), (2, 1, ((1, 2), (1, 0), (3, 2), (3, 3)), (2,)))

    def test_argument_is_not_changed(self):
        automaton = random_automaton(5, 2, 1, 9)
        before = parts_of(automaton)
        least(automaton)
        folding(automaton)
        first_word(automaton)
        parting_word(automaton, automaton)
        self.assertEqual(parts_of(automaton), before)

    def test_one_state(self):
        for accepting in ([], [0]):
            automaton = Automaton(2, 0, [(0,)], accepting)
            self.assertTrue(same(least(automaton), automaton))
        everything = Automaton(2, 1, [(1, 2), (2, 0), (0, 1)], [0, 1, 2])
        self.assertEqual(parts_of(least(everything)), (2, 1, ((0, 0),), (0,)))
        nothing = Automaton(2, 1, [(1, 0), (1, 0), (2, 2)], [2])
        self.assertEqual(parts_of(least(nothing)), (2, 1, ((0, 0),), ()))

    def test_middle_sizes(self):
        for seed in range(6):
            automaton = doubled(random_automaton(seed, 2 + seed % 3, 1, 60), seed)
            self.assertEqual(parts_of(least(automaton)), parts_of(plain_least(automaton)))

    def test_many_states_with_long_words(self):
        self.assertEqual(least(counter(5000)).size, 5000)
        self.assertEqual(least(ring(5000)).size, 5000)
        self.assertEqual(least(ring(5000, accepting=range(0, 5000, 125))).size, 125)
        self.assertEqual(least(ring(5000, accepting=range(5000))).size, 1)

    def test_many_states_and_letters(self):
        automaton = random_automaton(3, 2, 5, 2000)
        self.assertEqual(least(doubled(automaton, 3)).size, least(automaton).size)


class Folding(unittest.TestCase):

    def test_plain_way(self):
        for seed, automaton in enumerate(small_automata()):
            for given in (automaton, doubled(automaton, seed)):
                self.assertEqual(folding(given), plain_folding(given))

    def test_none_for_states_without_words(self):
        automaton = Automaton(2, 1, [(2, 3), (0, 0), (2, 3), (0, 0)], [3])
        found = folding(automaton)
        self.assertIsInstance(found, list)
        self.assertEqual(found, [0, None, 0, 1])

    def test_leads_on_as_the_automaton_does(self):
        for automaton in small_automata():
            fold = folding(automaton)
            small = least(automaton)
            for state, place in enumerate(fold):
                if place is not None:
                    self.assertEqual([fold[target] for target in automaton.rows[state]], list(small.rows[place]))
                    self.assertEqual(state in automaton.accepting, place in small.accepting)


class Comparing(unittest.TestCase):

    def test_first_parting_word(self):
        for first, second in pairs_of_automata(25):
            word = parting_word(first, second)
            # Two automata of so few states part within this length, or never.
            apart = [set(language(automaton, 4)) for automaton in (first, second)]
            found = sorted(apart[0] ^ apart[1], key=lambda told: (len(told), told))
            if found:
                self.assertEqual(word, found[0])
                self.assertIsInstance(word, tuple)
            elif word is not None:
                self.assertGreater(len(word), 4)
                self.assertNotEqual(first.accepts(word), second.accepts(word))
            self.assertIs(alike(first, second), word is None)
            self.assertIs(alike(first, second), same(plain_least(first), plain_least(second)))

    def test_parting_word_both_ways(self):
        for first, second in pairs_of_automata(15):
            self.assertEqual(parting_word(first, second), parting_word(second, first))

    def test_with_its_own_least(self):
        for automaton in small_automata():
            self.assertIsNone(parting_word(automaton, least(automaton)))
            self.assertIs(alike(automaton, least(automaton)), True)

    def test_many_pairs_joined(self):
        # Rings of unlike lengths: the pairs are joined in many ways before the states that part them come.
        for first, second in ((6, 4), (9, 6), (7, 5), (35, 21), (12, 18)):
            one, other = ring(first), ring(second)
            expected = next(at for at in range(1, first * second) if (at % first == 0) != (at % second == 0))
            self.assertEqual(parting_word(one, other), ((0,),) * expected)

    def test_first_in_order_among_the_shortest(self):
        one = Automaton(3, 1, [(1, 2, 1), (3, 3, 4), (3, 4, 3), (3, 3, 3), (3, 3, 3)], [4])
        silent = Automaton(3, 1, [(0, 0, 0)], [])
        self.assertEqual(parting_word(one, silent), ((0,), (2,)))
        self.assertEqual(parting_word(silent, one), ((0,), (2,)))
        self.assertEqual(first_word(one), ((0,), (2,)))

    def test_empty_word(self):
        one = Automaton(2, 1, [(0, 0)], [0])
        other = Automaton(2, 1, [(0, 0)], [])
        self.assertEqual(parting_word(one, other), ())
        self.assertEqual(first_word(one), ())
        self.assertIsNone(first_word(other))

    def test_unlike_base_or_tracks(self):
        two, three = Automaton(2, 1, [(0, 0)], []), Automaton(3, 1, [(0, 0, 0)], [])
        for first, second in (
                (two, three), (three, two), (two, Automaton(2, 0, [(0,)], [])),
                (Automaton(2, 2, [(0,) * 4], []), Automaton(4, 1, [(0,) * 4], [])),
                (Automaton(2, 0, [(0,)], []), Automaton(3, 0, [(0,)], []))):
            with self.assertRaises(BadAutomaton):
                alike(first, second)
            with self.assertRaises(BadAutomaton):
                parting_word(first, second)

    def test_first_word(self):
        for automaton in small_automata():
            accepted = language(automaton, 4)
            word = first_word(automaton)
            if accepted:
                self.assertEqual(word, accepted[0])
            elif word is not None:
                self.assertGreater(len(word), 4)
                self.assertTrue(automaton.accepts(word))
            else:
                self.assertEqual(least(automaton).accepting, ())

    def test_long_first_words(self):
        self.assertEqual(first_word(counter(5000)), ((0,),) * 4999)
        self.assertEqual(first_word(counter(5000, 2, 0)), ((),) * 4999)
        self.assertEqual(parting_word(counter(5000), counter(4999)), ((0,),) * 4998)
        self.assertEqual(parting_word(ring(5000), ring(2500)), ((0,),) * 2500)
        self.assertTrue(alike(ring(5000, accepting=(0, 2500)), ring(2500)))

    def test_each_step_by_one_letter_only(self):
        source = random.Random(7)
        steps = [source.randrange(4) for _ in range(3000)]
        rows = [[at + 1 if digit == step else 0 for digit in range(4)] for at, step in enumerate(steps)]
        automaton = Automaton(4, 1, rows + [[0] * 4], [3000])
        self.assertEqual(first_word(automaton), tuple((step,) for step in steps))


if __name__ == "__main__":
    unittest.main()
