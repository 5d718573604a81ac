"""2.7 to 2.9: automata that reckon."""

import itertools
import random
import unittest

from automatics.automaton import same
from automatics.basic import constant, equal, less, linear, multiple, power, top_power, total
from automatics.combine import everything, nothing
from automatics.digits import takes
from automatics.errors import BadAutomaton
from automatics.steady import is_steady
from tests.helpers import NO_INTEGERS, parts_of, plain_least

BASES = (2, 3, 4)
WRONG_BASES = NO_INTEGERS + (0, 1, 5, 2.0)


class Case(unittest.TestCase):

    def check_least_and_steady(self, automaton):
        self.assertEqual(parts_of(automaton), parts_of(plain_least(automaton)))
        self.assertTrue(is_steady(automaton))

    def check_rows(self, automaton, rows, rule):
        for row in rows:
            if takes(automaton, row) is not rule(*row):
                self.fail(f"{row} {rule(*row)}")

    def check_bases(self, call):
        for base in WRONG_BASES:
            with self.subTest(base=base), self.assertRaises(BadAutomaton):
                call(base)


def rows_near(factors, shift, source, count):
    """Rows of numbers whose sums lie near 0 or far away."""
    rows = []
    for _ in range(count):
        row = [source.randrange(4 ** source.randrange(1, 9)) for _ in factors]
        at = source.randrange(len(factors))
        if factors[at]:
            others = sum(factor * number for factor, number in zip(factors, row)) - factors[at] * row[at]
            row[at] = max(0, -(others + shift) // factors[at] + source.randrange(-1, 2))
        rows.append(tuple(row))
    return rows


class LinearSums(Case):

    def check(self, base, factors, shift, rows):
        def weigh(row):
            return sum(factor * number for factor, number in zip(factors, row)) + shift
        for sign, rule in (("=", lambda *row: weigh(row) == 0), ("<", lambda *row: weigh(row) < 0)):
            automaton = linear(base, factors, shift, sign)
            self.assertEqual((automaton.base, automaton.tracks), (base, len(factors)))
            self.check_rows(automaton, rows, rule)
            self.check_least_and_steady(automaton)

    def test_one_factor(self):
        for base in BASES:
            for factor in (-20, -3, -1, 0, 1, 2, 7, 20):
                for shift in (-1000, -21, -7, -1, 0, 1, 6, 40, 1000):
                    self.check(base, (factor,), shift, [(x,) for x in list(range(60)) + [333, 499, 500, 501, 1000, 1001]])

    def test_two_factors(self):
        rows = list(itertools.product(range(14), repeat=2)) + [(500, 500), (999, 1), (10 ** 6, 10 ** 6)]
        for base in BASES:
            for factors in ((1, 1), (1, -1), (-1, 1), (2, -3), (-5, -2), (0, 4), (0, 0), (20, -20), (-20, 19)):
                for shift in (-1000, -5, 0, 3, 1000):
                    self.check(base, factors, shift, rows)

    def test_three_factors(self):
        source = random.Random(3)
        rows = list(itertools.product(range(7), repeat=3))
        for base in BASES:
            for factors in ((1, 1, -1), (2, -1, 0), (-3, 4, 5), (20, -7, -13), (-1, -1, -1)):
                for shift in (-11, 0, 2):
                    self.check(base, factors, shift, rows + rows_near(factors, shift, source, 100))

    def test_random_ones(self):
        source = random.Random(4)
        for _ in range(25):
            factors = tuple(source.randrange(-20, 21) for _ in range(source.randrange(1, 5)))
            shift = source.randrange(-1000, 1001)
            self.check(source.choice((2, 3)), factors, shift, rows_near(factors, shift, source, 150))

    def test_greatest_ones(self):
        source = random.Random(5)
        for factors in ((20,) * 5, (-20,) * 5, (20, -20, 20, -20, 20), (20, -20, 19, -19, 1)):
            for shift in (1000, -1000):
                self.check(2, factors, shift, rows_near(factors, shift, source, 200))
        self.check(4, (-20, 20, -20, 20, -20), 1000, rows_near((-20, 20, -20, 20, -20), 1000, source, 200))
        self.check(3, (20,) * 5, -1000, rows_near((20,) * 5, -1000, source, 200))

    def test_no_factors(self):
        for base in BASES:
            for shift in (-1000, -1, 0, 1, 1000):
                for sign, holds in (("=", shift == 0), ("<", shift < 0)):
                    expected = everything(base, 0) if holds else nothing(base, 0)
                    self.assertTrue(same(linear(base, (), shift, sign), expected))

    def test_long_numbers(self):
        automaton = linear(3, (2, -5), 7, "=")
        y = 5 ** 4000
        y += (5 * y - 7) % 2
        x = (5 * y - 7) // 2
        self.assertIs(takes(automaton, (x, y)), True)
        self.assertIs(takes(automaton, (x + 1, y)), False)
        self.assertIs(takes(linear(3, (2, -5), 7, "<"), (x, y)), False)
        self.assertIs(takes(linear(3, (2, -5), 7, "<"), (x - 1, y)), True)

    def test_wrong_base(self):
        self.check_bases(lambda base: linear(base, (1, -1), 0, "="))

    def test_wrong_factors(self):
        for factor in NO_INTEGERS + (21, -21, 1.0, 100):
            if factor == -1 and isinstance(factor, int):
                continue
            for factors in ((factor,), (1, factor), (factor, 1)):
                with self.subTest(factor=factor), self.assertRaises(BadAutomaton):
                    linear(2, factors, 0, "=")
        for factors in ((1,) * 6, (0,) * 7, [1, -1], None, 1, "12", {}, {1}, b"12"):
            with self.subTest(factors=factors), self.assertRaises(BadAutomaton):
                linear(2, factors, 0, "=")

    def test_wrong_constant(self):
        for shift in NO_INTEGERS + (1001, -1001, 0.0, "0"):
            if shift == -1 and isinstance(shift, int):
                continue
            with self.subTest(shift=shift), self.assertRaises(BadAutomaton):
                linear(2, (1,), shift, "=")

    def test_wrong_sign(self):
        for sign in (">", "<=", "", "==", " =", None, 0, True, ("=",), b"=", ["<"], {"=": 1}):
            with self.subTest(sign=sign), self.assertRaises(BadAutomaton):
                linear(2, (1,), 0, sign)

    def test_arguments_are_kept(self):
        factors = (1, -2)
        linear(2, factors, 3, "<")
        self.assertEqual(factors, (1, -2))


class Known(Case):

    def test_equal_and_less(self):
        rows = list(itertools.product(range(40), repeat=2)) + [(3 ** 90, 3 ** 90), (3 ** 90, 3 ** 90 + 1), (3 ** 90, 5)]
        for base in BASES:
            self.check_rows(equal(base), rows, lambda x, y: x == y)
            self.check_rows(less(base), rows, lambda x, y: x < y)
            self.check_least_and_steady(equal(base))
            self.check_least_and_steady(less(base))
        self.check_bases(equal)
        self.check_bases(less)

    def test_total(self):
        rows = list(itertools.product(range(11), range(11), range(22))) + [
            (7 ** 50, 5 ** 60, 7 ** 50 + 5 ** 60), (7 ** 50, 5 ** 60, 7 ** 50 + 5 ** 60 + 1)]
        for base in BASES:
            self.check_rows(total(base), rows, lambda x, y, z: x + y == z)
            self.check_least_and_steady(total(base))
        self.check_bases(total)

    def test_constant(self):
        for base in BASES:
            for c in list(range(30)) + [255, 256, 257, 3 ** 18, 3 ** 18 - 1, 4 ** 14, 123456789, 10 ** 9 - 1, 10 ** 9]:
                automaton = constant(base, c)
                numbers = list(range(35)) + [
                    c - 1, c, c + 1, c * base, c // base, c + base ** 40, 10 ** 9, 10 ** 30, base * c + 1]
                self.check_rows(automaton, [(n,) for n in numbers if n >= 0], lambda n: n == c)
                self.assertEqual((automaton.base, automaton.tracks), (base, 1))
                self.check_least_and_steady(automaton)

    def test_constant_out_of_range(self):
        self.check_bases(lambda base: constant(base, 5))
        for c in NO_INTEGERS + (10 ** 9 + 1, -2, 5.0):
            with self.subTest(c=c), self.assertRaises(BadAutomaton):
                constant(2, c)

    def test_multiple(self):
        numbers = [(n,) for n in range(120)]
        for base in BASES:
            for modulus in range(1, 14):
                for rest in range(modulus):
                    automaton = multiple(base, modulus, rest)
                    self.check_rows(automaton, numbers, lambda n: n % modulus == rest)
                    self.assertEqual((automaton.base, automaton.tracks), (base, 1))
                    self.check_least_and_steady(automaton)

    def test_multiple_of_one_and_of_the_greatest(self):
        for base in BASES:
            self.assertTrue(same(multiple(base, 1, 0), everything(base, 1)))
            for modulus, rest in ((500, 0), (500, 499), (499, 7), (256, 3), (486, 485)):
                automaton = multiple(base, modulus, rest)
                numbers = list(range(1010)) + [10 ** 40 * modulus + rest, 10 ** 40 * modulus + rest + 1]
                self.check_rows(automaton, [(n,) for n in numbers], lambda n: n % modulus == rest)
                self.check_least_and_steady(automaton)

    def test_multiple_out_of_range(self):
        self.check_bases(lambda base: multiple(base, 3, 0))
        for modulus in NO_INTEGERS + (0, 501, -3, 3.0):
            with self.subTest(modulus=modulus), self.assertRaises(BadAutomaton):
                multiple(2, modulus, 0)
        for rest in NO_INTEGERS + (3, 4, -2, 0.0):
            with self.subTest(rest=rest), self.assertRaises(BadAutomaton):
                multiple(2, 3, rest)
        for modulus, rest in ((1, 1), (500, 500)):
            with self.assertRaises(BadAutomaton):
                multiple(2, modulus, rest)

    def test_power(self):
        for base in BASES:
            powers = {base ** many for many in range(70)}
            some = [base ** many for many in range(60)]
            numbers = list(range(300)) + [n * times + more for n in some for times in (1, 2, 3) for more in (0, 1)]
            self.check_rows(power(base), [(n,) for n in numbers], lambda n: n in powers)
            self.assertEqual((power(base).base, power(base).tracks), (base, 1))
            self.check_least_and_steady(power(base))
        self.check_bases(power)

    def test_top_power(self):
        for base in BASES:
            def holds(x, y):
                top = 1
                while x and x % (top * base) == 0:
                    top *= base
                return x >= 1 and y == top
            rows = list(itertools.product(range(70), repeat=2)) + [
                (number * base ** many, base ** other)
                for number in (1, 5, 7, 12, 35) for many in range(12) for other in range(14)]
            automaton = top_power(base)
            self.check_rows(automaton, rows, holds)
            self.assertEqual((automaton.base, automaton.tracks), (base, 2))
            self.check_least_and_steady(automaton)
        self.check_bases(top_power)


class Example(Case):

    def test_total_has_three_states(self):
        self.assertEqual(total(2).size, 3)

    def test_less(self):
        self.assertEqual(less(2).rows, ((0, 1, 2, 0), (1, 1, 1, 1), (2, 2, 2, 2)))
        self.assertEqual(less(2).accepting, (1,))

    def test_multiple_of_three(self):
        self.assertEqual(multiple(2, 3, 0).rows, ((0, 1), (2, 0), (1, 2)))
        self.assertEqual(multiple(2, 3, 0).accepting, (0,))


if __name__ == "__main__":
    unittest.main()
