"""4.5: values of terms, and the truth of formulas below a bound."""

import random
import unittest

from automatics.errors import BadValues
from automatics.formula import both_ways, free, implies, term
from automatics.knownseq import powers, residues, thue_morse
from automatics.plain import holds_below, value_of
from tests.formulas import SEQUENCES, drawn_formulas, plain_term
from tests.helpers import NO_INTEGERS, great_numbers, member

A, B, C = plain_term("a"), plain_term("b"), plain_term("c")
NUMBERS = {"a": 3, "b": 5, "c": 0}


def plainly(formula, values, bound):
    """Whether a formula holds, by Python's own any and all."""
    def told(one):
        return sum(values[variable] for variable in one[1]) + one[2]
    kind, *items = formula
    if kind == "true":
        return True
    if kind == "=":
        return told(items[0]) == told(items[1])
    if kind == "<":
        return told(items[0]) < told(items[1])
    if kind == "is":
        return member(SEQUENCES[items[0]], told(items[1])) == items[2]
    if kind == "same":
        return member(SEQUENCES[items[0]], told(items[1])) == member(SEQUENCES[items[2]], told(items[3]))
    if kind in ("some", "all"):
        results = [plainly(items[1], {**values, items[0]: number}, bound) for number in range(bound)]
        return any(results) if kind == "some" else all(results)
    results = [plainly(item, values, bound) for item in items]
    return {"not": lambda: not results[0], "and": lambda: all(results), "or": lambda: any(results)}[kind]()


class Values(unittest.TestCase):

    def test_values(self):
        for one, found in (
                (term("", 0), 0), (term("", 1000), 1000), (term("a", 0), 3), (term("b", 7), 12), (term("ab", 1), 9),
                (term("aabc", 2), 13), (term("cccc", 0), 0), (term("bbbb", 1000), 1020)):
            self.assertEqual(value_of(one, NUMBERS), found)
            self.assertIs(type(value_of(one, NUMBERS)), int)

    def test_great_values(self):
        for n in great_numbers(1):
            self.assertEqual(value_of(term("aab", 5), {"a": n, "b": 1}), 2 * n + 6)

    def test_no_values_are_asked_for(self):
        self.assertEqual(value_of(term("", 8), {}), 8)

    def test_no_value(self):
        with self.assertRaises(BadValues):
            value_of(term("ad", 0), NUMBERS)
        for value in NO_INTEGERS[:-1]:
            with self.assertRaises(BadValues):
                value_of(term("a", 0), {"a": value})


class Holds(unittest.TestCase):

    def check(self, formula, expected, values=None, bound=10):
        found = holds_below(formula, NUMBERS if values is None else values, SEQUENCES, bound)
        self.assertIs(found, expected)

    def test_atoms(self):
        thue = thue_morse()
        self.check(("true",), True)
        for n in range(12):
            for m in range(12):
                values = {"a": n, "b": m}
                self.check(("=", plain_term("ab", 1), plain_term("bb", 3)), n + m + 1 == 2 * m + 3, values)
                self.check(("<", plain_term("a", 4), plain_term("bb")), n + 4 < 2 * m, values)
                self.check(
                    ("same", "T", plain_term("a", 1), "T", B), thue.at(n + 1) == thue.at(m), values)
                self.check(("is", "T", plain_term("ab"), 1), thue.at(n + m) == 1, values)
                self.check(("is", "T", plain_term("ab"), 2), False, values)

    def test_same_takes_each_sequence_with_its_own_term(self):
        sequences = {"P": powers(2), "R": residues(2, 10)}
        formula = ("same", "P", plain_term("a"), "R", plain_term("b"))
        for a in range(10):
            for b in range(10):
                found = holds_below(formula, {"a": a, "b": b}, sequences, 1)
                self.assertIs(found, (a in (1, 2, 4, 8)) == b if b < 2 else False)

    def test_joined(self):
        for p in (True, False):
            for q in (True, False):
                first = ("true",) if p else ("not", ("true",))
                second = ("=", A, A) if q else ("<", A, A)
                self.check(("not", first), not p)
                self.check(("and", first, second), p and q)
                self.check(("or", first, second), p or q)
                self.check(implies(first, second), not p or q)
                self.check(both_ways(first, second), p == q)

    def test_great_values(self):
        for n in great_numbers(3):
            values = {"a": n, "b": 2 * n}
            self.check(("=", plain_term("aa"), B), True, values)
            self.check(("<", plain_term("aa"), B), False, values)
            self.check(("is", "T", A, member(SEQUENCES["T"], n)), True, values)
            self.check(("same", "T", A, "T", plain_term("aa")), True, values)
            self.check(("some", "b", ("=", plain_term("a", 9), plain_term("ab"))), True, values)
            self.check(("some", "b", ("=", plain_term("a", 10), plain_term("ab"))), False, values)

    def test_drawn_ones(self):
        told = []
        for formula in drawn_formulas(5, 300, 5):
            for bound in (1, 2, 6):
                expected = plainly(formula, NUMBERS, bound)
                self.check(formula, expected, NUMBERS, bound)
                told.append(expected)
        self.assertGreater(told.count(True), 100)
        self.assertGreater(told.count(False), 100)

    def test_drawn_ones_with_small_terms(self):
        source = random.Random(6)
        for formula in drawn_formulas(7, 300, 5):
            small = shrunk(formula, source)
            values = {variable: source.randrange(5) for variable in free(small)}
            self.check(small, plainly(small, values, 5), values, 5)

    def test_within_one_another(self):
        even = ("all", "a", ("some", "b", ("or", ("=", A, plain_term("bb")), ("=", A, plain_term("bb", 1)))))
        for bound in (1, 2, 7, 200):
            self.check(even, True, {}, bound)
            # There is a greatest number below the bound.
            self.check(("all", "a", ("some", "b", ("<", A, B))), False, {}, bound)
            self.check(("some", "a", ("all", "b", ("<", B, plain_term("a", 1)))), True, {}, bound)
            self.check(("some", "a", ("all", "b", ("<", A, plain_term("b", 1)))), True, {}, bound)
            self.check(("some", "a", ("all", "b", ("=", A, B))), bound == 1, {}, bound)

    def test_bounds(self):
        for bound in (1, 2, 199, 200):
            top = plain_term("", bound - 1)
            self.check(("some", "a", ("=", A, top)), True, {}, bound)
            self.check(("some", "a", ("=", A, plain_term("", bound))), False, {}, bound)
            self.check(("all", "a", ("<", A, plain_term("", bound))), True, {}, bound)
            self.check(("all", "a", ("<", A, top)), False, {}, bound)
            self.check(("some", "a", ("=", A, plain_term(""))), True, {}, bound)
            self.check(("all", "a", ("<", plain_term(""), A)), False, {}, bound)

    def test_free_values_may_be_beyond_the_bound(self):
        self.check(("=", A, plain_term("", 300)), True, {"a": 300}, 5)
        self.check(("some", "b", ("=", B, A)), False, {"a": 300}, 5)

    def test_bound_variable_hides_a_value(self):
        formula = ("and", ("=", A, plain_term("", 3)), ("some", "a", ("=", A, plain_term("", 1))))
        self.check(formula, True, {"a": 3}, 2)
        self.check(("and", formula[2], formula[1]), True, {"a": 3}, 2)
        self.check(("some", "a", ("and", ("=", A, plain_term("", 1)), formula[2])), True, {}, 2)
        self.check(("some", "a", ("and", formula[2], ("=", A, plain_term("", 0)))), True, {}, 2)

    def test_arguments_are_not_changed(self):
        values, sequences = {"a": 3, "b": 1}, dict(SEQUENCES)
        holds_below(("all", "a", ("some", "c", ("is", "T", plain_term("ac"), 1))), values, sequences, 9)
        self.assertEqual(values, {"a": 3, "b": 1})
        self.assertEqual(sequences, SEQUENCES)


def shrunk(formula, source):
    """The formula with constants below 4."""
    if formula[0] == "sum":
        return plain_term(formula[1][:2], source.randrange(4))
    return tuple(shrunk(item, source) if isinstance(item, tuple) else item for item in formula)


class Wrong(unittest.TestCase):

    def check_wrong(self, formula, values, sequences=SEQUENCES):
        with self.subTest(formula=formula, values=values), self.assertRaises(BadValues):
            holds_below(formula, values, sequences, 5)

    def test_free_variable_without_a_value(self):
        for formula in (
                ("=", A, B), ("<", B, A), ("is", "T", B, 0), ("same", "T", A, "S", B), ("not", ("=", B, B)),
                ("and", ("=", A, A), ("=", B, B)), ("or", ("true",), ("=", B, B)), ("some", "a", ("=", A, B)),
                ("all", "a", ("<", A, B)), ("or", ("some", "b", ("=", B, B)), ("=", B, B))):
            self.check_wrong(formula, {"a": 1})
            self.check_wrong(formula, {"a": 1, "c": 1, "B": 2})
            self.check_wrong(formula, {})
            self.assertIsInstance(holds_below(formula, {"a": 1, "b": 2}, SEQUENCES, 5), bool)

    def test_bound_variables_need_no_value(self):
        self.assertIs(holds_below(("some", "b", ("=", B, A)), {"a": 2}, {}, 5), True)
        self.assertIs(holds_below(("true",), {}, {}, 5), True)

    def test_value_that_is_no_number(self):
        for value in NO_INTEGERS:
            if value != 10 ** 30:
                self.check_wrong(("=", A, B), {"a": value, "b": 1})
                self.check_wrong(("or", ("true",), ("=", A, B)), {"a": 1, "b": value})
                self.check_wrong(("true",), {"a": value})
        for value in (0, 1, 10 ** 30):
            self.assertIs(holds_below(("=", A, B), {"a": value, "b": value}, {}, 5), True)

    def test_name_that_is_no_key(self):
        only = {"T": thue_morse()}
        for formula in (
                ("is", "S", A, 0), ("same", "T", A, "S", A), ("same", "S", A, "T", A), ("not", ("is", "S", A, 0)),
                ("or", ("true",), ("is", "S", A, 0)), ("some", "a", ("or", ("true",), ("is", "S", A, 0)))):
            self.check_wrong(formula, {"a": 1}, only)
            self.check_wrong(formula, {"a": 1}, {})
        self.assertIs(holds_below(("is", "T", A, 1), {"a": 1}, only, 5), True)


if __name__ == "__main__":
    unittest.main()
