"""7.6 and 7.10: counting told rows by the number on a track."""

import itertools
import unittest

from automatics.automaton import Automaton
from automatics.basic import constant, equal, less, linear, multiple, power, top_power, total
from automatics.combine import both, either, everything, nothing, placed
from automatics.compiling import compiled
from automatics.digits import takes
from automatics.errors import BadAutomaton, Endless, NotSteady, TooMany
from automatics.formula import term
from automatics.knownseq import thue_morse
from automatics.least import least
from automatics.linear import Linear, counting
from automatics.project import looked, looked_both
from automatics.steady import is_steady
from tests.helpers import NO_INTEGERS, counter, made_steady, plain_letters, ring


def plain_parts(automaton, track):
    """The row, the matrices and the column of a steady automaton, found from its least one by going through words."""
    small = least(automaton)
    alphabet = plain_letters(small.base, small.tracks)
    useful = {state for state in range(small.size) if leads_on(small, state)}
    states = sorted(useful)
    matrices = tuple(
        tuple(
            tuple(
                sum(1 for letter, target in zip(alphabet, small.rows[one]) if letter[track] == digit and target == other)
                for other in states)
            for one in states)
        for digit in range(small.base))
    many = dict.fromkeys(states, 0)
    if 0 in many:
        many[0] = 1
    # All words of some length, with how often they lead to each state.
    ahead = {}
    for letter, target in zip(alphabet[1:], small.rows[0][1:]):
        if letter[track] == 0 and target in useful:
            ahead[target] = ahead.get(target, 0) + 1
    for _ in range(small.size + 1):
        following = {}
        for state, count in ahead.items():
            many[state] += count
            for letter, target in zip(alphabet, small.rows[state]):
                if letter[track] == 0 and target in useful:
                    following[target] = following.get(target, 0) + count
        ahead = following
    if ahead:
        return None
    last = tuple(1 if state in small.accepting else 0 for state in states)
    return small.base, tuple(many[state] for state in states), matrices, last


def leads_on(automaton, state):
    """Whether words lead from a state to accepting ones."""
    reached = [state]
    for one in reached:
        reached.extend(target for target in set(automaton.rows[one]) if target not in reached)
    return any(one in automaton.accepting for one in reached)


class Counting(unittest.TestCase):

    def check(self, automaton, track, rule, most=40):
        found = counting(automaton, track)
        self.assertIs(type(found), Linear)
        self.assertEqual((found.base, found.first, found.matrices, found.last), plain_parts(automaton, track))
        self.assertEqual(found.values(most), [rule(x) for x in range(most)])

    def test_automata_that_reckon(self):
        for base in (2, 3, 4):
            self.check(less(base), 1, lambda x: x)
            self.check(equal(base), 0, lambda x: 1)
            self.check(equal(base), 1, lambda x: 1)
            self.check(total(base), 2, lambda x: x + 1)
            self.check(constant(base, 5), 0, lambda x: 1 if x == 5 else 0)
            self.check(multiple(base, 6, 1), 0, lambda x: 1 if x % 6 == 1 else 0)
            self.check(everything(base, 1), 0, lambda x: 1)
            self.check(linear(base, (2, 3, -1), 0, "="), 2, lambda x: sum(1 for y in range(x + 1) if 3 * y <= x
                                                                        and (x - 3 * y) % 2 == 0))
            self.check(both(less(base), placed(power(base), 2, (0,))), 1, lambda x: len(below(x, base)))

    def test_top_power(self):
        self.check(top_power(2), 0, lambda x: 1 if x else 0)

    def test_nothing(self):
        for base in (2, 3, 4):
            for tracks in (1, 2, 3):
                for track in range(tracks):
                    found = counting(nothing(base, tracks), track)
                    self.assertEqual((found.size(), found.first, found.last), (0, (), ()))
                    self.assertEqual(found.matrices, ((),) * base)
                    self.assertEqual(found.values(5), [0] * 5)

    def test_drawn_ones(self):
        counted = endless = 0
        for base, tracks in ((2, 1), (2, 2), (2, 3), (3, 2), (4, 2)):
            for seed in range(40):
                automaton = made_steady(seed, base, tracks, 2 + seed % 5)
                rows = [list(row) for row in automaton.rows]
                # Mostly dead ends, so that only finitely many rows have a number in common.
                for state in range(1, automaton.size):
                    for place in range(len(rows[state])):
                        if place % 3 != seed % 3 or rows[state][place] <= state:
                            rows[state][place] = automaton.size
                rows.append([automaton.size] * len(rows[0]))
                automaton = Automaton(base, tracks, rows, automaton.accepting)
                for track in range(tracks):
                    parts = plain_parts(automaton, track)
                    if parts is None:
                        endless += 1
                        with self.assertRaises(Endless):
                            counting(automaton, track)
                        continue
                    counted += 1
                    found = counting(automaton, track)
                    self.assertEqual((found.base, found.first, found.matrices, found.last), parts)
                    self.check_values(automaton, track, found)
        self.assertGreater(min(counted, endless), 20)

    def check_values(self, automaton, track, found):
        """Counts told rows with numbers of few digits; those with more are told by no useful states any more."""
        digits = 5 if automaton.tracks < 3 and automaton.base == 2 else 3
        great = automaton.base ** digits
        for x in range(3):
            others = itertools.product(range(great), repeat=automaton.tracks - 1)
            many = sum(1 for row in others if takes(automaton, row[:track] + (x,) + row[track:]))
            self.assertLessEqual(many, found.value(x))
            if automaton.size <= 3:
                self.assertEqual(many, found.value(x))

    def test_rows_that_are_longer_than_the_number(self):
        # 4 ** 9 and 0 stand together, and 4 ** 9 + 1 and 0.
        great = 4 ** 9
        first = both(placed(constant(4, great), 2, (0,)), placed(constant(4, 0), 2, (1,)))
        second = both(placed(constant(4, great + 1), 2, (0,)), placed(constant(4, 0), 2, (1,)))
        self.check(either(first, second), 1, lambda x: 2 if x == 0 else 0)
        self.assertEqual(counting(either(first, second), 0).value(great + 1), 1)

    def test_all_letters_count(self):
        # The pairs with y <= x and any z below x: several letters lead from a state to another one.
        automaton = both(linear(2, (-1, 1, 0), -1, "<"), linear(2, (-1, 0, 1), 0, "<"))
        self.check(automaton, 0, lambda x: (x + 1) * x)

    def test_members(self):
        thue = thue_morse()
        self.check(looked(thue, 1), 0, thue.at)
        automaton = both(looked_both(thue, thue), less(2))
        self.check(automaton, 1, lambda x: sum(1 for y in range(x) if thue.at(y) == thue.at(x)))

    def test_what_is_not_least(self):
        wide = Automaton(2, 1, [(1, 2), (0, 3), (3, 1), (2, 0), (4, 4)], [2, 3])
        self.check(wide, 0, thue_morse().at)


class Errors(unittest.TestCase):

    def test_no_such_track(self):
        for track in (2, 3, -1, *NO_INTEGERS):
            with self.assertRaises(BadAutomaton):
                counting(less(2), track)
        for track in (0, *NO_INTEGERS):
            with self.assertRaises(BadAutomaton):
                counting(everything(2, 0), track)

    def test_endless(self):
        for automaton, track in (
                (less(2), 0), (everything(2, 2), 0), (everything(3, 2), 1), (total(2), 0), (total(2), 1), (top_power(3), 1),
                (placed(constant(2, 5), 2, (0,)), 0), (linear(2, (1, 1, 0), -4, "="), 1)):
            with self.assertRaises(Endless):
                counting(automaton, track)

    def test_endless_for_one_number_only(self):
        # Only for x = 6 there are infinitely many y.
        automaton = either(both(equal(2), placed(linear(2, (1,), -6, "<"), 2, (0,))),
                           both(placed(constant(2, 6), 2, (0,)), placed(power(2), 2, (1,))))
        with self.assertRaises(Endless):
            counting(automaton, 0)
        self.assertEqual(counting(automaton, 1).values(9), [1, 2, 2, 1, 2, 1, 0, 0, 1])

    def test_not_steady(self):
        for automaton in (ring(2), ring(3, 2, 2)):
            with self.assertRaises(NotSteady):
                counting(automaton, 0)

    def test_number_of_states(self):
        # A word of so many letters and zeros in front: each needs a state.
        for size, taken in ((300, True), (301, False)):
            rows = [(0, 1)] + [(min(at + 1, size), min(at + 1, size)) for at in range(1, size)] + [(size, size)]
            automaton = Automaton(2, 1, rows, [size - 1])
            self.assertTrue(is_steady(automaton))
            if taken:
                found = counting(automaton, 0)
                self.assertEqual(found.size(), 300)
                self.assertEqual(found.value(2 ** 298), 1)
            else:
                with self.assertRaises(TooMany):
                    counting(automaton, 0)

    def test_states_that_lead_nowhere_are_not_needed(self):
        # 299 useful states, and 200 that lead to no accepting state are all alike.
        rows = [(0, 1)] + [(at + 1, 300) for at in range(1, 298)] + [(300, 300)] + [(300, 300)] * 2
        self.assertEqual(counting(Automaton(2, 1, rows, [298]), 0).size(), 299)
        self.assertEqual(counter(3).size, 3)

    def test_endless_comes_before_too_many(self):
        size = 400
        rows = [(0, 1, 1, 1)] + [(at + 1,) * 4 for at in range(1, size)] + [(1,) * 4]
        with self.assertRaises(Endless):
            counting(Automaton(2, 2, rows, [5]), 0)


class Example(unittest.TestCase):

    def test_example(self):
        automaton = compiled(("<", term("a", 0), term("b", 0)), 2, {})
        self.assertEqual(counting(automaton, 1).values(50), list(range(50)))
        with self.assertRaises(Endless):
            counting(automaton, 0)

    def test_items_by_hand(self):
        # State 0: so far equal; state 1: the first is less.
        found = counting(less(2), 1)
        self.assertEqual(found.first, (1, 0))
        self.assertEqual(found.matrices, (((1, 0), (0, 2)), ((1, 1), (0, 2))))
        self.assertEqual(found.last, (0, 1))


def below(x, base):
    """The powers of the base below x."""
    return [base ** at for at in range(20) if base ** at < x]


if __name__ == "__main__":
    unittest.main()
