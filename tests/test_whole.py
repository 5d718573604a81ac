"""8.4 to 8.7: whole questions."""

import itertools
import random
import unittest

from automatics.about import has_overlap, has_square, is_periodic, is_recurrent, periodic_from
from automatics.automaton import same
from automatics.basic import constant, linear, multiple, power
from automatics.combine import both, either, everything, nothing, opposite
from automatics.compiling import compiled
from automatics.digits import takes, word_of
from automatics.errors import BadValues, OtherBase, TooMany, TooWide
from automatics.formula import put
from automatics.formulatext import formula_of
from automatics.knownseq import (
    block_count, digit_sum, paper_folding, powers, repeating, residues, rudin_shapiro, thue_morse)
from automatics.linear import Linear
from automatics.made import mapped, paired, shifted
from automatics.project import looked
from automatics.sequence import Sequence
from automatics.solve import decide, row_at, rows_within
from automatics.steady import is_steady
from automatics.whole import block_numbers, least_period, likeness, mirror_lengths, places, square_lengths
from tests.formulas import SEQUENCES_BY_BASE, long_sequence
from tests.helpers import parts_of, plain_least, random_sequence, sequence_parts, small_sequences

KNOWN = (
    thue_morse(), paper_folding(), powers(2), powers(3), powers(4), digit_sum(4, 2), residues(3, 4), residues(2, 5),
    repeating(2, (1, 2), (3, 4, 5)), repeating(3, (0, 1, 0), (1, 0)), repeating(4, (), (0, 0, 1)))


class Likeness(unittest.TestCase):

    def check(self, first, second, expected, base=2):
        sequences = SEQUENCES_BY_BASE[base]
        self.assertEqual(likeness(formula_of(first), formula_of(second), base, sequences), expected)
        self.assertEqual(likeness(formula_of(second), formula_of(first), base, sequences), expected)

    def test_same_meaning(self):
        for first, second in (
                ("a < b", "some c (a + c + 1 = b)"), ("!(a < b)", "(b < a | a = b)"), ("a = a", "(true | a = 5)"),
                ("true", "all a (some b (a < b))"), ("0 = 1", "some a (a < a)"), ("T[a] = T[b]", "T[b] = T[a]"),
                ("S[a + 1] = @1", "some x ((x = a + 1 & S[x] = @1))")):
            for base in (2, 3, 4):
                self.check(first, second, None, base)

    def test_first_row(self):
        for first, second, row in (
                ("a < b", "b < a", (0, 1)), ("a = b", "a < b", (0, 0)), ("a = 7", "a = 9", (7,)), ("a < 100", "a < 107", (100,)),
                ("true", "0 = 1", ()), ("some a (a = 3)", "all a (a = 3)", ()), ("a + b = 5", "(a + b = 5 & a < 5)", (5, 0)),
                ("a + b = 12", "0 = a + b", (0, 0)), ("x = y", "(x = y & x < 4)", (4, 4))):
            for base in (2, 3, 4):
                self.check(first, second, row, base)

    def test_order_of_the_rows(self):
        # Rows with fewer digits come first; (1, 0) comes before (0, 2), as 2 has two digits in the base 2.
        self.check("(a = 1 & b = 0)", "(a = 0 & b = 2)", (1, 0), 2)
        self.check("(a = 1 & b = 0)", "(a = 0 & b = 2)", (0, 2), 3)
        self.check("(z = 1 & b = 0)", "(z = 0 & b = 1)", (0, 1), 3)

    def test_against_trying_out(self):
        texts = ("T[a] = T[b]", "T[a + 1] = T[b]", "a < b", "some c (a = b + c + c)", "T[a + b] = @1", "(a = b & T[a] = @0)",
                 "T[a] = S[b]", "(T[a] = @1 | b < 3)")
        for base in (2, 3):
            sequences = SEQUENCES_BY_BASE[base]
            automata = [compiled(formula_of(text), base, sequences) for text in texts]
            rows = sorted(
                itertools.product(range(9), repeat=2), key=lambda row: (len(word_of(row, base)), word_of(row, base)))
            for one, other in itertools.combinations(range(len(texts)), 2):
                unlike = [row for row in rows if takes(automata[one], row) != takes(automata[other], row)]
                self.check(texts[one], texts[other], unlike[0], base)

    def test_great_rows(self):
        found = likeness(formula_of("a + a + 999 < b"), formula_of("a + a + 1000 < b"), 2, {})
        self.assertEqual(found, (0, 1000))

    def test_other_free_variables(self):
        for first, second in (
                ("a = b", "a = c"), ("a = a", "true"), ("a < b", "a = 1"), ("some a (a = b)", "a = 0"), ("a = b", "b = c"),
                ("X[a] = @1", "X[b] = @1"), ("a + b + c = d + e + f", "true")):
            with self.assertRaises(BadValues):
                likeness(formula_of(first), formula_of(second), 2, {"T": thue_morse()})

    def test_the_first_formula_comes_first(self):
        sequences = {"P": powers(3), "L": long_sequence(2, 71), "M": long_sequence(2, 73)}
        raising = (
            (BadValues, "(X[a] = @1 & b = b)"), (OtherBase, "(P[a] = @1 & b = b)"), (TooMany, "(L[a] = @1 & M[b] = @1)"),
            (TooWide, "(a = b & some c (some d (some e (some f (a + b + c = d + e + f)))))"))
        for (error, first), (_, second) in itertools.permutations(raising, 2):
            with self.assertRaises(error):
                likeness(formula_of(first), formula_of(second), 2, sequences)
        for error, text in raising:
            for first, second in ((text, "a = b"), ("a = b", text)):
                with self.assertRaises(error):
                    likeness(formula_of(first), formula_of(second), 2, sequences)


class Blocks(unittest.TestCase):

    def test_block_numbers(self):
        for sequence in KNOWN:
            found = block_numbers(sequence)
            self.assertIs(type(found), Linear)
            self.assertEqual(found.base, sequence.base)
            members = sequence.first(2000)
            for n, value in enumerate(found.values(9)):
                self.assertEqual(value, len({tuple(members[i:i + n]) for i in range(1900)}))

    def test_block_numbers_of_drawn_ones(self):
        done = 0
        for base in (2, 3):
            for seed in range(15):
                sequence = random_sequence(seed, base, 1 + seed % 3, 2)
                try:
                    values = block_numbers(sequence).values(6)
                except TooMany:
                    continue
                members = sequence.first(3000)
                self.assertEqual(values, [len({tuple(members[i:i + n]) for i in range(2900)}) for n in range(6)])
                done += 1
        self.assertGreater(done, 20)

    def test_great_numbers_of_blocks(self):
        found = block_numbers(repeating(2, (1, 2), (3, 4, 5)))
        self.assertEqual(found.value(10 ** 40), 5)
        # For a length between 2 ** k + 1 and 3 * 2 ** (k - 1) + 1 there are 6 * 2 ** (k - 1) + 4 * (n - 2 ** k - 1).
        self.assertEqual(block_numbers(thue_morse()).value(2 ** 50 + 1), 3 * 2 ** 50)

    def test_square_lengths(self):
        for sequence in KNOWN:
            found = square_lengths(sequence)
            self.check_least(found, sequence)
            members = sequence.first(1200)
            for p in range(12):
                rule = p > 0 and any(members[i:i + p] == members[i + p:i + 2 * p] for i in range(1100))
                self.assertEqual(takes(found, (p,)), rule)

    def test_mirror_lengths(self):
        for sequence in KNOWN:
            found = mirror_lengths(sequence)
            self.check_least(found, sequence)
            members = sequence.first(1200)
            for n in range(14):
                rule = any(members[i:i + n] == members[i:i + n][::-1] for i in range(1100))
                self.assertEqual(takes(found, (n,)), rule)

    def check_least(self, found, sequence):
        self.assertEqual((found.base, found.tracks), (sequence.base, 1))
        self.assertEqual(parts_of(found), parts_of(plain_least(found)))
        self.assertTrue(is_steady(found))

    def test_too_many(self):
        for call in (block_numbers, square_lengths):
            with self.assertRaises(TooMany):
                call(rudin_shapiro())

    def test_arguments_are_not_changed(self):
        sequence = thue_morse()
        before = sequence_parts(sequence)
        block_numbers(sequence)
        square_lengths(sequence)
        mirror_lengths(sequence)
        places(sequence, (0, 1))
        least_period(sequence)
        self.assertEqual(sequence_parts(sequence), before)


class Places(unittest.TestCase):

    def check(self, sequence, block, most=150):
        found = places(sequence, block)
        self.assertEqual((found.base, found.tracks), (sequence.base, 1))
        self.assertEqual(parts_of(found), parts_of(plain_least(found)))
        self.assertTrue(is_steady(found))
        members = sequence.first(most + 6)
        for i in range(most):
            self.assertEqual(takes(found, (i,)), tuple(members[i:i + len(block)]) == block)

    def test_known_ones(self):
        for sequence in KNOWN + (rudin_shapiro(), digit_sum(3, 3)):
            members = sequence.first(40)
            for length in range(7):
                for i in (0, 1, 5, 17):
                    self.check(sequence, tuple(members[i:i + length]))
                self.check(sequence, (1,) * length)

    def test_drawn_ones(self):
        for sequence in small_sequences():
            members = sequence.first(40)
            for length, i in ((1, 3), (2, 7), (3, 0), (6, 11)):
                self.check(sequence, tuple(members[i:i + length]), 60)

    def test_empty_block(self):
        for sequence in KNOWN:
            self.assertTrue(same(places(sequence, ()), everything(sequence.base, 1)))

    def test_single_outputs(self):
        for sequence in KNOWN:
            for output in range(10):
                self.assertTrue(same(places(sequence, (output,)), looked(sequence, output)))

    def test_blocks_that_do_not_stand(self):
        self.assertTrue(same(places(thue_morse(), (0, 0, 0)), nothing(2, 1)))
        self.assertTrue(same(places(thue_morse(), (0, 1, 0, 1, 0)), nothing(2, 1)))
        self.assertTrue(same(places(thue_morse(), (7,)), nothing(2, 1)))

    def test_far_places(self):
        found = places(powers(2), (0, 1, 0))
        self.assertEqual(rows_within(found, 6), [(3,), (7,), (15,), (31,), (63,)])
        for i in (2 ** 200 - 1, 2 ** 200, 2 ** 200 - 2):
            self.assertEqual(takes(found, (i,)), i == 2 ** 200 - 1)

    def test_against_formulas(self):
        for sequence in (thue_morse(), paper_folding(), digit_sum(3, 3)):
            found = compiled(
                formula_of("((T[i] = @1 & T[i + 1] = @0) & (T[i + 2] = @1 & T[i + 3] = @1))"), sequence.base,
                {"T": sequence})
            self.assertTrue(same(places(sequence, (1, 0, 1, 1)), found))

    def test_many_states(self):
        long = long_sequence(2, 1999)
        found = places(long, (0, 0, 0, 1, 0, 0))
        for i in (0, 1995, 1996, 1997, 1999 + 1996, 1999 * 10 ** 20 - 3):
            self.assertEqual(takes(found, (i,)), i % 1999 == 1996)


def by_formula(sequence):
    """The least period by the formula for it."""
    sequences = {"T": sequence}
    formula = periodic_from("T", "i", "p")
    row = row_at(compiled(("some", "i", formula), sequence.base, sequences), 0)
    if row is None:
        return None
    return row_at(compiled(put(formula, "p", row[0]), sequence.base, sequences), 0)[0], row[0]


class LeastPeriod(unittest.TestCase):

    def test_known_ones(self):
        for sequence in (thue_morse(), rudin_shapiro(), paper_folding(), powers(2), powers(4), digit_sum(3, 3),
                         block_count(2, (1, 0), 3)):
            self.assertIsNone(least_period(sequence))
        for base in (2, 3, 4):
            for modulus in range(1, 11):
                self.assertEqual(least_period(residues(base, modulus)), (0, modulus))
        self.assertEqual(least_period(digit_sum(3, 2)), (0, 2))
        self.assertEqual(least_period(digit_sum(4, 3)), (0, 3))

    def test_repeating(self):
        source = random.Random(2)
        for base in (2, 3, 4):
            for _ in range(60):
                front = tuple(source.randrange(2) for _ in range(source.randrange(21)))
                loop = tuple(source.randrange(2) for _ in range(source.randrange(1, 21)))
                found = least_period(repeating(base, front, loop))
                self.assertIs(type(found), tuple)
                members = list(front) + list(loop) * 10
                self.assertEqual(found, plain_period(members, len(front) + len(loop)))

    def test_drawn_ones(self):
        told = {}
        for base, count in ((2, 120), (3, 40), (4, 20)):
            for seed in range(count):
                sequence = random_sequence(seed, base, 1 + seed % 4, 2)
                found = least_period(sequence)
                self.assertEqual(found, by_formula(sequence))
                told[found] = True
                if found is not None:
                    i, p = found
                    members = sequence.first(i + 500)
                    self.assertEqual(members[i:-p], members[i + p:])
                    self.assertTrue(i == 0 or members[i - 1] != members[i - 1 + p])
        self.assertGreater(len(told), 5)

    def test_changed_ones(self):
        # Some members of a periodic sequence are others: finitely many, or infinitely many.
        for base in (2, 3, 4):
            loop = repeating(base, (), (0, 1, 2))
            for automaton, expected in (
                    (constant(base, 10 ** 9), (10 ** 9 + 1, 3)), (constant(base, 0), (1, 3)),
                    (either(constant(base, 7), constant(base, 100)), (101, 3)), (nothing(base, 1), (0, 3)),
                    (power(base), None), (opposite(power(base)), None), (multiple(base, 5, 1), (0, 15)),
                    (multiple(base, 2, 0), (0, 6)), (everything(base, 1), (0, 3)),
                    # From 100 on, those that leave 2 by 7; the greatest smaller one is 93.
                    (both(multiple(base, 7, 2), linear(base, (-1,), 99, "<")), (94, 21))):
                self.assertEqual(least_period(marked(loop, automaton)), expected)

    def test_one_great_number(self):
        for base in (2, 3, 4):
            for number in (0, 1, 2, 1000, 3 ** 40 + 5, 2 ** 500, 10 ** 200):
                self.assertEqual(least_period(one_number(base, number)), (number + 1, 1))

    def test_the_first_digit_decides(self):
        # Even numbers, or odd ones if the first digit is 2: each alone would be periodic.
        sequence = Sequence(3, [(0, 1, 4), (2, 1, 2), (1, 2, 1), (3, 3, 3), (4, 5, 4), (5, 4, 5)], (0, 1, 0, 0, 0, 1))
        self.assertIsNone(least_period(sequence))
        self.assertIsNone(by_formula(sequence))

    def test_the_number_of_digits_decides(self):
        sequence = Sequence(2, [(0, 1), (2, 2), (1, 1)], (0, 1, 0))
        self.assertIsNone(least_period(sequence))

    def test_great_periods(self):
        for base, period in ((2, 997), (2, 1000), (3, 1000), (4, 999), (2, 512), (3, 729), (2, 960), (4, 768)):
            sequence = long_sequence(base, period)
            self.assertEqual(least_period(sequence), (0, period))
            self.assertEqual(least_period(shifted(sequence, 5)), (0, period))
            self.assertEqual(least_period(mapped(sequence, [3] * 10)), (0, 1))
        for base, period in ((2, 1001), (3, 1001), (4, 1003), (2, 1024), (3, 1458), (2, 1999), (2, 2000), (4, 1536)):
            with self.assertRaises(TooMany):
                least_period(long_sequence(base, period))

    def test_periods_of_few_states(self):
        for base, zeros in ((2, 9), (3, 6), (4, 4)):
            self.assertEqual(least_period(divisible(base, zeros)), (0, base ** zeros))
        for base, zeros in ((2, 10), (2, 60), (3, 7), (4, 5), (2, 1998), (4, 1998)):
            with self.assertRaises(TooMany):
                least_period(divisible(base, zeros))

    def test_steps_of_a_base_that_is_no_prime(self):
        # In the base 4, a period may be a power of 2.
        for modulus in (2, 4, 8, 16, 32, 6, 24):
            sequence = long_sequence(4, modulus)
            self.assertEqual(least_period(sequence), (0, modulus))

    def test_words_that_begin_and_end_alike(self):
        # Three parts, of which only the first and the last one are the same, do not come again after two.
        sequence = Sequence(3, [(0, 1, 0), (0, 1, 0)], (0, 1))
        self.assertEqual(sequence.first(9), [0, 1, 0, 0, 1, 0, 0, 1, 0])
        self.assertEqual(least_period(sequence), (0, 3))

    def test_many_states_that_are_not_periodic(self):
        self.assertIsNone(least_period(random_sequence(1, 2, 2000, 2)))
        self.assertIsNone(least_period(random_sequence(2, 4, 1500, 3)))


def plain_period(members, most):
    """The least period and the least place from which on it holds, for members that surely come again from `most` on."""
    tail = members[most:]
    period = next(p for p in range(1, len(tail)) if tail[p:] == tail[:-p] and p <= 20)
    start = most
    while start > 0 and members[start - 1] == members[start - 1 + period]:
        start -= 1
    return start, period


def marked(sequence, automaton):
    """The sequence with other members, 3 more, at the numbers that an automaton tells."""
    told = Sequence(automaton.base, automaton.rows, [1 if at in automaton.accepting else 0 for at in range(automaton.size)])
    table = [0] * 100
    for output in range(4):
        table[10 * output] = output
        table[10 * output + 1] = output + 3
    return paired(sequence, told, table)


def divisible(base, zeros):
    """The sequence with 1 at the numbers that end with so many zeros."""
    rows = [[0] + [1] * (base - 1)]
    rows.extend([min(at + 1, zeros + 1)] + [1] * (base - 1) for at in range(1, zeros + 2))
    return Sequence(base, rows, [1] + [0] * zeros + [1])


def one_number(base, number):
    """The sequence with 1 at one number and 0 everywhere else."""
    digits = []
    while number:
        number, digit = divmod(number, base)
        digits.append(digit)
    digits.reverse()
    end = len(digits)
    rows = [[end + 1] * base for _ in range(end + 2)]
    rows[0][0] = 0
    for at, digit in enumerate(digits):
        rows[at][digit] = at + 1
    return Sequence(base, rows, [0] * end + [1, 0])


class ThueMorse(unittest.TestCase):

    def test_what_is_known(self):
        thue = thue_morse()
        for sentence, truth in ((has_square, True), (has_overlap, False), (is_recurrent, True), (is_periodic, False)):
            self.assertIs(decide(sentence("T"), 2, {"T": thue}), truth)
        self.assertIsNone(least_period(thue))
        thrice = compiled(formula_of("some b ((a = b + b + b & P[b] = @1))"), 2, {"P": powers(2)})
        self.assertTrue(same(square_lengths(thue), either(power(2), thrice)))
        self.assertEqual(block_numbers(thue).values(7), [1, 2, 4, 6, 10, 12, 16])
        members = thue.first(3000)
        self.assertEqual(
            block_numbers(thue).values(20), [len({tuple(members[i:i + n]) for i in range(2900)}) for n in range(20)])


if __name__ == "__main__":
    unittest.main()
