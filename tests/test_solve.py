"""7.1 to 7.4: told rows of numbers, in order."""

import itertools
import unittest

from automatics.automaton import Automaton
from automatics.basic import constant, equal, less, linear, multiple, power, top_power, total
from automatics.combine import both, either, everything, nothing, opposite, placed
from automatics.compiling import compiled
from automatics.digits import takes, word_of
from automatics.errors import BadValues, BadWord, NotSteady, OtherBase, TooMany, TooWide
from automatics.formula import term
from automatics.formulatext import formula_of
from automatics.knownseq import powers, thue_morse
from automatics.project import looked
from automatics.solve import count_all, count_within, decide, index_of, is_finite, row_at, rows_within
from tests.helpers import NO_INTEGERS, made_steady, parts_of, ring
from tests.formulas import long_sequence

LENGTHS = {(2, 0): 4, (2, 1): 8, (2, 2): 4, (2, 3): 3, (3, 0): 3, (3, 1): 5, (3, 2): 3, (3, 3): 2, (4, 0): 2, (4, 1): 4, (4, 2): 2}


def finite_ones():
    """Automata that tell finitely many rows, and how many."""
    few = both(linear(2, (1, 1), -9, "<"), less(2))
    return [
        (constant(2, 0), 1), (constant(3, 10 ** 9), 1), (linear(2, (1,), -37, "<"), 37), (linear(4, (1,), -1000, "<"), 1000),
        (nothing(2, 1), 0), (nothing(3, 3), 0), (linear(2, (1, 1), -9, "="), 10), (linear(3, (1, 1, 1), -4, "="), 15),
        (few, sum(1 for x in range(9) for y in range(9) if x < y and x + y < 9)), (everything(2, 0), 1), (nothing(4, 0), 0),
        (linear(2, (), 0, "="), 1), (linear(2, (1, 0), 1, "="), 0), (linear(4, (1, 1, 1, 1, 1), -2, "<"), 6),
        (both(power(2), linear(2, (1,), -1000, "<")), 10)]


def infinite_ones():
    """Automata that tell infinitely many rows."""
    return [
        everything(2, 1), everything(3, 2), less(2), equal(4), total(3), multiple(2, 7, 3), power(2), power(4), top_power(3),
        opposite(constant(2, 5)), looked(thue_morse(), 1), linear(2, (3, -5), 1, "="), either(constant(2, 5), power(2)),
        linear(2, (1, 0), -3, "=")]


def plain_rows(automaton, length):
    """All told rows of numbers with at most so many digits, found by trying, in the order of their words."""
    count = automaton.base ** length
    told = [
        row for row in itertools.product(range(count), repeat=automaton.tracks) if takes(automaton, row)]
    return sorted(told, key=lambda row: (len(word_of(row, automaton.base)), word_of(row, automaton.base)))


def drawn_ones():
    """Drawn steady automata with the length of the numbers to try."""
    for (base, tracks), length in LENGTHS.items():
        for seed in range(8):
            yield made_steady(seed, base, tracks, 1 + seed % 5), length
    for automaton, _ in finite_ones():
        if automaton.tracks < 4:
            yield automaton, LENGTHS[automaton.base, automaton.tracks]
    for automaton in infinite_ones():
        yield automaton, LENGTHS[automaton.base, automaton.tracks]


class Decide(unittest.TestCase):

    def test_sentences(self):
        sequences = {"T": thue_morse()}
        for text, truth in (
                ("true", True), ("!(true)", False), ("all a (some b (a < b))", True), ("some b (all a (a < b))", False),
                ("3 = 3", True), ("3 < 3", False), ("some a ((T[a] = T[a + 1] & T[a + 1] = T[a + 2]))", False),
                ("some a ((T[a] = T[a + 1] & T[a + 3] = T[a + 2]))", True), ("T[7] = @1", True), ("T[7] = T[0]", False)):
            self.assertIs(decide(formula_of(text), 2, sequences), truth)

    def test_free_variables(self):
        for text in ("a = a", "some a (a < b)", "T[a] = @0", "(true & a = 0)"):
            with self.assertRaises(BadValues):
                decide(formula_of(text), 2, {"T": thue_morse()})

    def test_free_variables_come_first(self):
        sequences = {"P": powers(3), "L": long_sequence(2, 71), "M": long_sequence(2, 73)}
        for text in ("P[a] = @1", "a + b + c = d + e + f", "(L[a] = @1 & M[b] = @1)"):
            with self.assertRaises(BadValues):
                decide(formula_of(text), 2, sequences)

    def test_what_compiled_raises(self):
        sequences = {"P": powers(3), "L": long_sequence(2, 71), "M": long_sequence(2, 73)}
        for error, text in (
                (BadValues, "some a (X[a] = @1)"), (OtherBase, "some a (P[a] = @1)"),
                (TooWide, "all a (all b (all c (all d (all e (all f (a + b + c = d + e + f))))))"),
                (TooMany, "some a (some b ((L[a] = @1 & M[b] = @1)))")):
            with self.assertRaises(error):
                decide(formula_of(text), 2, sequences)


class Rows(unittest.TestCase):

    def test_against_trying_out(self):
        for automaton, length in drawn_ones():
            plain = plain_rows(automaton, length)
            self.assertEqual(rows_within(automaton, length), plain)
            self.assertEqual(count_within(automaton, length), len(plain))
            for index in range(0, len(plain), 1 + len(plain) // 40):
                self.assertEqual(row_at(automaton, index), plain[index])
                self.assertEqual(index_of(automaton, plain[index]), index)

    def test_index_of_rows_that_are_not_told(self):
        for automaton, length in drawn_ones():
            short = length - 1
            plain = set(plain_rows(automaton, short))
            every = plain_rows(everything(automaton.base, automaton.tracks), short)
            before = 0
            for row in every:
                self.assertEqual(index_of(automaton, row), before)
                before += row in plain

    def test_shorter_lengths(self):
        for automaton, length in drawn_ones():
            for short in range(length):
                plain = plain_rows(automaton, short)
                self.assertEqual(rows_within(automaton, short), plain)
                self.assertEqual(count_within(automaton, short), len(plain))

    def test_length_0(self):
        for base in (2, 3, 4):
            self.assertEqual(rows_within(everything(base, 2), 0), [(0, 0)])
            self.assertEqual(count_within(everything(base, 2), 0), 1)
            self.assertEqual(rows_within(less(base), 0), [])
            self.assertEqual(count_within(less(base), 0), 0)
            self.assertEqual(rows_within(everything(base, 0), 0), [()])
            self.assertEqual(rows_within(nothing(base, 0), 0), [])
            self.assertEqual(rows_within(power(base), 1), [(1,)])

    def test_length_1000(self):
        self.assertEqual(count_within(everything(2, 1), 1000), 2 ** 1000)
        self.assertEqual(count_within(less(3), 1000), 3 ** 1000 * (3 ** 1000 - 1) // 2)
        self.assertEqual(count_within(multiple(2, 3, 0), 1000), (2 ** 1000 + 2) // 3)
        self.assertEqual(count_within(everything(2, 0), 1000), 1)
        self.assertEqual(count_within(nothing(4, 2), 1000), 0)
        self.assertEqual(rows_within(power(4), 1000), [(4 ** at,) for at in range(1000)])
        self.assertEqual(rows_within(constant(3, 77), 1000), [(77,)])
        self.assertEqual(rows_within(nothing(2, 3), 1000), [])

    def test_great_indexes(self):
        for index in (0, 1, 10 ** 9, 10 ** 100, 2 ** 2000 - 1):
            self.assertEqual(row_at(everything(2, 1), index), (index,))
            self.assertEqual(index_of(everything(2, 1), (index,)), index)
            self.assertEqual(index_of(multiple(2, 7, 3), row_at(multiple(2, 7, 3), index // 8)), index // 8)
        for index in (10 ** 50, 10 ** 300):
            self.assertEqual(row_at(multiple(3, 5, 2), index), (5 * index + 2,))
            for automaton in (less(2), total(3), looked(thue_morse(), 1), equal(4), linear(2, (3, -5), 1, "=")):
                row = row_at(automaton, index)
                self.assertTrue(takes(automaton, row))
                self.assertEqual(index_of(automaton, row), index)

    def test_index_of_great_numbers(self):
        great = 7 * 10 ** 3000
        self.assertEqual(index_of(everything(3, 1), (great,)), great)
        self.assertEqual(index_of(multiple(2, 7, 0), (great,)), 10 ** 3000)
        self.assertEqual(index_of(constant(2, 5), (great,)), 1)
        self.assertEqual(index_of(constant(2, 5), (5,)), 0)
        self.assertEqual(index_of(power(2), (2 ** 5000,)), 5000)

    def test_index_that_is_too_great(self):
        for automaton, count in finite_ones():
            self.assertIsNone(row_at(automaton, count))
            self.assertIsNone(row_at(automaton, count + 1))
            self.assertIsNone(row_at(automaton, 10 ** 400))
            if count:
                self.assertTrue(takes(automaton, row_at(automaton, count - 1)))

    def test_no_tracks(self):
        self.assertEqual(row_at(everything(2, 0), 0), ())
        self.assertIsNone(row_at(everything(2, 0), 1))
        self.assertIsNone(row_at(nothing(2, 0), 0))
        self.assertEqual(index_of(everything(2, 0), ()), 0)
        self.assertEqual(index_of(nothing(2, 0), ()), 0)

    def test_automata_that_are_not_least(self):
        wide = Automaton(2, 1, [(1, 2), (0, 3), (3, 1), (2, 0), (4, 4)], [2, 3])
        self.assertEqual(rows_within(wide, 4), plain_rows(wide, 4))
        for index, row in enumerate(plain_rows(wide, 4)):
            self.assertEqual(row_at(wide, index), row)
            self.assertEqual(index_of(wide, row), index)
        self.assertEqual(count_within(wide, 4), len(plain_rows(wide, 4)))
        self.assertEqual(count_all(wide), None)

    def test_wrong_rows(self):
        for automaton in (less(2), opposite(less(2))):
            for row in ((), (1,), (1, 2, 3), [1, 2], 1, None, "ab", (1, -1), (True, 2), (1, False), (1, 2.0), ("1", 2),
                        (1, None), {1: 2}, ((1,), (2,)), (1, (2,))):
                with self.assertRaises(BadWord):
                    index_of(automaton, row)
        for value in NO_INTEGERS[:-1]:
            with self.assertRaises(BadWord):
                index_of(power(2), (value,))
            if value != ():
                with self.assertRaises(BadWord):
                    index_of(everything(2, 0), value)

    def test_rows_of_long_words(self):
        # A row of a word of 2000 letters is found, of 2001 letters not.
        self.assertEqual(row_at(power(2), 1999), (2 ** 1999,))
        self.assertEqual(row_at(power(3), 1999), (3 ** 1999,))
        self.assertEqual(row_at(everything(2, 1), 2 ** 2000 - 1), (2 ** 2000 - 1,))
        for automaton, index in ((power(2), 2000), (power(3), 2000), (everything(2, 1), 2 ** 2000), (power(4), 10 ** 50)):
            with self.assertRaises(TooMany):
                row_at(automaton, index)

    def test_long_words_of_finitely_many_rows(self):
        # Told are 0, and the power of 2 with so many zeros behind it.
        for zeros in (1999, 2000):
            rows = [(0, 1)] + [(at + 1, zeros + 2) for at in range(1, zeros + 1)] + [(zeros + 2,) * 2] * 2
            automaton = Automaton(2, 1, rows, [0, zeros + 1])
            self.assertEqual(row_at(automaton, 0), (0,))
            self.assertIsNone(row_at(automaton, 2))
            if zeros == 1999:
                self.assertEqual(row_at(automaton, 1), (2 ** 1999,))
            else:
                with self.assertRaises(TooMany):
                    row_at(automaton, 1)

    def test_number_of_rows(self):
        # 10000 numbers of at most 14 digits; one more is too many.
        self.assertEqual(rows_within(linear(2, (1,), -1000, "<"), 20), [(n,) for n in range(1000)])
        ten = placed(linear(2, (1,), -100, "<"), 2, (0,)), placed(linear(2, (1,), -100, "<"), 2, (1,))
        square = both(*ten)
        self.assertEqual(len(rows_within(square, 9)), 10000)
        more = either(square, both(placed(constant(2, 100), 2, (0,)), placed(constant(2, 5), 2, (1,))))
        self.assertEqual(count_within(more, 9), 10001)
        with self.assertRaises(TooMany):
            rows_within(more, 9)
        with self.assertRaises(TooMany):
            rows_within(everything(4, 1), 1000)
        self.assertEqual(len(rows_within(everything(3, 1), 8)), 3 ** 8)


class Counts(unittest.TestCase):

    def test_finite(self):
        for automaton, count in finite_ones():
            self.assertIs(is_finite(automaton), True)
            self.assertEqual(count_all(automaton), count)
            self.assertIs(type(count_all(automaton)), int)

    def test_infinite(self):
        for automaton in infinite_ones():
            self.assertIs(is_finite(automaton), False)
            self.assertIsNone(count_all(automaton))

    def test_drawn_ones(self):
        told = {True: 0, False: 0}
        for automaton, length in drawn_ones():
            # A told word without zeros in front that is longer than there are states goes round somewhere.
            size = automaton.size
            few, many = count_within(automaton, size), count_within(automaton, 3 * size + 2)
            told[is_finite(automaton)] += 1
            self.assertEqual(is_finite(automaton), few == many)
            self.assertEqual(count_all(automaton), few if few == many else None)
        self.assertGreater(min(told.values()), 10)

    def test_states_that_lead_nowhere(self):
        # All letters lead round in state 1; state 2 leads to it, and to state 3, which leads nowhere.
        automaton = Automaton(3, 1, [(0, 1, 2), (1, 1, 1), (3, 1, 1), (3, 3, 3)], [1])
        self.assertIs(is_finite(automaton), False)
        self.assertIsNone(count_all(automaton))
        self.assertEqual(row_at(automaton, 10), plain_rows(automaton, 4)[10])

    def test_zeros_in_front_do_not_count(self):
        # Only zeros lead round.
        self.assertEqual(count_all(constant(2, 12)), 1)
        self.assertEqual(count_all(linear(2, (1, 1), 0, "=")), 1)

    def test_great_counts(self):
        # All numbers of at most 1000 digits.
        rows = [(0, 1)] + [(at + 1, at + 1) for at in range(1, 1001)] + [(1001, 1001)]
        automaton = Automaton(2, 1, rows, list(range(1001)))
        self.assertEqual(count_all(automaton), 2 ** 1000)
        self.assertEqual(count_within(automaton, 1000), 2 ** 1000)
        self.assertEqual(count_within(automaton, 10), 1024)


class Steadiness(unittest.TestCase):

    def test_not_steady(self):
        for automaton in (ring(2), ring(3, 3, 2), Automaton(2, 1, [(1, 1), (1, 1)], [0]), Automaton(2, 0, [(1,), (0,)], [0])):
            row = (0,) * automaton.tracks
            for call in (
                    lambda one: row_at(one, 0), lambda one: index_of(one, row), lambda one: count_within(one, 3),
                    lambda one: rows_within(one, 3), is_finite, count_all):
                with self.assertRaises(NotSteady):
                    call(automaton)

    def test_zeros_that_lead_to_a_state_that_is_alike(self):
        automaton = Automaton(2, 1, [(1, 2), (0, 2), (2, 2)], [0, 1])
        self.assertEqual(row_at(automaton, 0), (0,))
        self.assertEqual(count_all(automaton), 1)

    def test_arguments_are_not_changed(self):
        automaton = total(2)
        before = parts_of(automaton)
        row_at(automaton, 5)
        index_of(automaton, (1, 2, 3))
        rows_within(automaton, 2)
        count_within(automaton, 5)
        count_all(automaton)
        self.assertEqual(parts_of(automaton), before)


class Example(unittest.TestCase):

    def test_example(self):
        automaton = compiled(("<", term("a", 0), term("b", 0)), 2, {})
        self.assertEqual(row_at(automaton, 0), (0, 1))
        self.assertEqual(row_at(automaton, 1), (0, 2))
        self.assertEqual(count_within(automaton, 2), 6)


if __name__ == "__main__":
    unittest.main()
