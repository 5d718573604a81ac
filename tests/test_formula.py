"""4.1 to 4.4, 4.6: terms and formulas."""

import random
import unittest

from automatics.errors import Captured, TooGreat
from automatics.formula import (
    both_ways, depth, free, implies, is_formula, is_term, names, put, renamed, term)
from automatics.plain import holds_below
from tests.formulas import SEQUENCES, drawn_formulas, nested, plain_term
from tests.helpers import NO_INTEGERS

A, B = plain_term("a"), plain_term("b")
EQUAL = ("=", A, B)
IS = ("is", "T", A, 1)
SAME = ("same", "T", A, "S", B)
KINDS = ("not", "and", "or", "some", "all")
NESTED = ("not", EQUAL), ("and", EQUAL, IS), ("or", EQUAL, SAME), ("some", "a", EQUAL), ("all", "b", IS)
ATOMS = ("true",), EQUAL, ("<", A, B), IS, SAME
STRANGE = NO_INTEGERS + (1, "sum", "true", "=", "not", ("true",), ["true"], ("sum",), range(3), iter(()))


class Terms(unittest.TestCase):

    def test_terms(self):
        for value in (
                ("sum", (), 0), ("sum", (), 1000), ("sum", ("a",), 0), ("sum", ("z",), 1), ("sum", ("a", "a"), 3),
                ("sum", ("a", "b", "b", "z"), 1000), ("sum", ("q",) * 4, 999)):
            self.assertIs(is_term(value), True)

    def test_values_that_are_almost_terms(self):
        for value in (
                ["sum", ("a",), 0], ("sum", ["a"], 0), ("sum", "a", 0), ("sum", "ab", 0), ("sum", ("ab",), 0),
                ("sum", ("A",), 0), ("sum", ("",), 0), ("sum", ("1",), 0), ("sum", ("\u00e9",), 0), ("sum", ("`",), 0),
                ("sum", ("{",), 0), ("sum", (b"a",), 0), ("sum", (1,), 0), ("sum", (None,), 0), ("sum", (("a",),), 0),
                ("sum", ("b", "a"), 0), ("sum", ("a", "c", "b"), 0), ("sum", ("a",) * 5, 0), ("sum", ("a",), 1001),
                ("sum", ("a",), -1), ("sum", ("a",), True), ("sum", ("a",), False), ("sum", ("a",), 1.0),
                ("sum", ("a",), "1"), ("sum", ("a",), None), ("sum", ("a",), [1]), ("sum", ("a",)),
                ("sum", ("a",), 0, 0), ("sum",), (), ("Sum", ("a",), 0), ("", ("a",), 0), ("total", ("a",), 0),
                (None, ("a",), 0), (0, ("a",), 0), (["sum"], ("a",), 0), (("sum",), ("a",), 0), (b"sum", ("a",), 0),
                ("sum", None, 0), ("sum", {"a": 1}, 0), ("sum", {"a"}, 0), ("sum", 0, ("a",)), (("a",), "sum", 0)):
            with self.subTest(value=value):
                self.assertIs(is_term(value), False)
        for value in STRANGE + EQUAL + NESTED:
            if value != A and value != B:
                with self.subTest(value=value):
                    self.assertIs(is_term(value), False)

    def test_values_of_other_kinds_in_each_place(self):
        for value in STRANGE:
            with self.subTest(value=value):
                if value != "sum":
                    self.assertIs(is_term((value, ("a",), 0)), False)
                if value != ():
                    self.assertIs(is_term(("sum", value, 0)), False)
                self.assertIs(is_term(("sum", (value,), 0)), False)
                self.assertIs(is_term(("sum", ("a", value), 0)), False)
                if type(value) is not int or value < 0 or value > 1000:
                    self.assertIs(is_term(("sum", ("a",), value)), False)

    def test_term(self):
        self.assertEqual(term("ba", 3), ("sum", ("a", "b"), 3))
        self.assertEqual(term("", 0), ("sum", (), 0))
        self.assertEqual(term("zaza", 1000), ("sum", ("a", "a", "z", "z"), 1000))
        for variables in ("", "x", "dcba", "aaaa"):
            self.assertTrue(is_term(term(variables, 7)))


class Formulas(unittest.TestCase):

    def test_each_kind(self):
        for value in ATOMS + NESTED:
            with self.subTest(value=value):
                self.assertIs(is_formula(value), True)
        for output in range(10):
            self.assertIs(is_formula(("is", "Z", A, output)), True)
        for formula in drawn_formulas(1, 100):
            self.assertIs(is_formula(formula), True)

    def test_lists_in_the_place_of_tuples(self):
        for value in ATOMS + NESTED:
            self.assertIs(is_formula(list(value)), False)
            for at, item in enumerate(value):
                if isinstance(item, tuple):
                    self.assertIs(is_formula(value[:at] + (list(item),) + value[at + 1:]), False)
                    self.assertIs(is_formula((("not", value[:at] + (list(item),) + value[at + 1:]))), False)

    def test_another_number_of_items(self):
        for value in ATOMS + NESTED:
            for other in (value[:-1], value + (value[-1],), value + (A,), value + (None,), value[1:]):
                with self.subTest(other=other):
                    self.assertIs(is_formula(other), False)
        self.assertIs(is_formula(()), False)

    def test_unknown_words(self):
        for value in ATOMS + NESTED:
            for word in (
                    "", "True", "false", "==", "!=", ">", "<=", "in", "Same", "Not", "xor", "implies", "exists", "every",
                    "sum", "a", "T", " not", "not "):
                with self.subTest(value=value, word=word):
                    self.assertIs(is_formula((word,) + value[1:]), False)

    def test_values_of_other_kinds_in_each_place(self):
        right = {
            "name": lambda value: False, "term": is_term, "variable": lambda value: False,
            "output": lambda value: type(value) is int and 0 <= value <= 9, "formula": lambda value: value == ("true",)}
        places = {
            "=": ("term", "term"), "<": ("term", "term"), "is": ("name", "term", "output"),
            "same": ("name", "term", "name", "term"), "not": ("formula",), "and": ("formula", "formula"),
            "or": ("formula", "formula"), "some": ("variable", "formula"), "all": ("variable", "formula")}
        for formula in ATOMS[1:] + NESTED:
            for value in STRANGE + (A, "", "A", "ab", "AB", "a", "t", 10, 9):
                for at, kind in enumerate(places[formula[0]], 1):
                    other = formula[:at] + (value,) + formula[at + 1:]
                    expected = right[kind](value)
                    if kind == "name" and value == "A" or kind == "variable" and value in ("a", "t"):
                        expected = True
                    with self.subTest(other=other):
                        self.assertIs(is_formula(other), expected)
                with self.subTest(formula=formula, value=value):
                    self.assertIs(is_formula((value,) + formula[1:]), value == "=" and formula[0] == "<" or
                                  value == "=" and formula[0] == "=" or value == "not" and formula[0] == "not")
                    self.assertIs(is_formula(value), value == ("true",))

    def test_variables_and_names(self):
        for variable in ("A", "", "ab", "aa", "1", "\u00e9", "`", "{", b"a", 1, None, ("a",), ["a"]):
            self.assertIs(is_formula(("some", variable, ("true",))), False)
            self.assertIs(is_formula(("all", variable, ("true",))), False)
        for name in ("a", "", "AB", "1", "\u00c9", "@", "[", b"A", 1, None, ("A",), ["A"]):
            self.assertIs(is_formula(("is", name, A, 1)), False)
            self.assertIs(is_formula(("same", name, A, "T", B)), False)
            self.assertIs(is_formula(("same", "T", A, name, B)), False)
        for letter in "abcdefghijklmnopqrstuvwxyz":
            self.assertIs(is_formula(("some", letter, ("true",))), True)
            self.assertIs(is_formula(("is", letter.upper(), A, 1)), True)

    def test_wrong_terms_within(self):
        for wrong in (
                ("sum", ("b", "a"), 0), ("sum", ("a",) * 5, 0), ("sum", ("a",), 1001), ("sum", ("a",), True),
                ("sum", ["a"], 0), ["sum", ("a",), 0], ("sum", ("aa",), 0), ("sum", ("A",), 0)):
            for value in (
                    ("=", wrong, A), ("=", A, wrong), ("<", wrong, A), ("<", A, wrong), ("is", "T", wrong, 0),
                    ("same", "T", wrong, "S", A), ("same", "T", A, "S", wrong), ("not", ("=", wrong, A)),
                    ("and", ("true",), ("=", wrong, A)), ("or", ("=", A, wrong), ("true",)),
                    ("some", "a", ("<", wrong, A)), ("all", "a", ("is", "T", wrong, 0))):
                self.assertIs(is_formula(value), False)

    def test_nesting(self):
        for kind in KINDS:
            for inner in (("true",), EQUAL, IS, SAME):
                self.assertIs(is_formula(nested(kind, 12, inner)), True)
                self.assertIs(is_formula(nested(kind, 13, inner)), False)
                self.assertIs(is_formula(nested(kind, 20, inner)), False)
            self.assertIs(is_formula(("and", nested(kind, 11), nested(kind, 11))), True)
            self.assertIs(is_formula(("or", nested(kind, 11), nested(kind, 12))), False)
            self.assertIs(is_formula(("or", nested(kind, 12), nested(kind, 11))), False)

    def test_nested_very_deep(self):
        for kind in KINDS:
            self.assertIs(is_formula(nested(kind, 100000)), False)
            self.assertIs(is_term(nested(kind, 100000)), False)


class Told(unittest.TestCase):

    def test_depth(self):
        for formula in ATOMS:
            self.assertEqual(depth(formula), 0)
        for formula in NESTED:
            self.assertEqual(depth(formula), 1)
        for kind in KINDS:
            for times in range(16):
                self.assertEqual(depth(nested(kind, times, IS)), times)
            self.assertEqual(depth(("and", nested(kind, 3), nested(kind, 5))), 6)
            self.assertEqual(depth(("or", nested(kind, 5), nested(kind, 3))), 6)

    def test_free(self):
        c = plain_term("cca", 4)
        for formula, variables in (
                (("true",), []), (("=", c, B), ["a", "b", "c"]), (("<", plain_term(""), plain_term("zz")), ["z"]),
                (("is", "B", c, 1), ["a", "c"]), (SAME, ["a", "b"]), (("same", "X", A, "Y", A), ["a"]),
                (("not", IS), ["a"]), (("and", IS, ("=", B, B)), ["a", "b"]), (("or", ("=", B, B), IS), ["a", "b"]),
                (("some", "a", EQUAL), ["b"]), (("all", "b", EQUAL), ["a"]), (("some", "x", EQUAL), ["a", "b"]),
                (("some", "a", ("all", "b", EQUAL)), []),
                # Free in one part and bound in another.
                (("and", ("some", "a", EQUAL), ("=", A, A)), ["a", "b"]), (("or", IS, ("all", "a", IS)), ["a"]),
                (("some", "a", ("and", IS, ("some", "b", EQUAL))), []),
                (("and", ("some", "a", IS), ("all", "a", EQUAL)), ["b"]),
                (("some", "a", ("or", EQUAL, ("some", "b", ("true",)))), ["b"])):
            with self.subTest(formula=formula):
                self.assertEqual(free(formula), variables)
                self.assertIs(type(free(formula)), list)

    def test_names(self):
        for formula, found in (
                (("true",), []), (EQUAL, []), (IS, ["T"]), (SAME, ["S", "T"]), (("same", "X", A, "X", B), ["X"]),
                (("and", ("is", "Z", A, 0), ("not", SAME)), ["S", "T", "Z"]), (("or", IS, IS), ["T"]),
                (("some", "t", ("all", "s", ("is", "A", A, 1))), ["A"])):
            self.assertEqual(names(formula), found)
            self.assertIs(type(names(formula)), list)


class MadeFromParts(unittest.TestCase):

    def test_implies(self):
        self.assertEqual(implies(EQUAL, IS), ("or", ("not", EQUAL), IS))
        self.assertEqual(implies(("true",), SAME), ("or", ("not", ("true",)), SAME))

    def test_both_ways(self):
        self.assertEqual(
            both_ways(EQUAL, IS), ("and", ("or", ("not", EQUAL), IS), ("or", ("not", IS), EQUAL)))


class Renaming(unittest.TestCase):

    def test_atoms(self):
        for formula, found in (
                (("true",), ("true",)), (EQUAL, ("=", plain_term("c"), B)),
                (("<", B, plain_term("ab", 3)), ("<", B, plain_term("bc", 3))),
                (("is", "A", plain_term("aab", 9), 2), ("is", "A", plain_term("bcc", 9), 2)),
                (("same", "A", A, "C", plain_term("aaaa", 1000)),
                 ("same", "A", plain_term("c"), "C", plain_term("cccc", 1000)))):
            self.assertEqual(renamed(formula, "a", "c"), found)

    def test_within(self):
        for kind in ("and", "or"):
            self.assertEqual(renamed((kind, EQUAL, IS), "a", "x"), (kind, ("=", plain_term("x"), B),
                                                                   ("is", "T", plain_term("x"), 1)))
        self.assertEqual(renamed(("not", IS), "a", "x"), ("not", ("is", "T", plain_term("x"), 1)))
        for kind in ("some", "all"):
            self.assertEqual(renamed((kind, "b", EQUAL), "a", "x"), (kind, "b", ("=", plain_term("x"), B)))

    def test_order_of_the_variables(self):
        formula = ("=", plain_term("abcd", 3), plain_term("mz"))
        self.assertEqual(renamed(formula, "a", "z"), ("=", ("sum", ("b", "c", "d", "z"), 3), ("sum", ("m", "z"), 0)))
        self.assertEqual(renamed(formula, "d", "b"), ("=", ("sum", ("a", "b", "b", "c"), 3), ("sum", ("m", "z"), 0)))
        self.assertEqual(renamed(formula, "z", "a"), ("=", ("sum", ("a", "b", "c", "d"), 3), ("sum", ("a", "m"), 0)))

    def test_bound_ones_stay(self):
        for kind in ("some", "all"):
            bound = (kind, "a", EQUAL)
            self.assertEqual(renamed(bound, "a", "c"), bound)
            self.assertEqual(renamed(bound, "a", "b"), bound)
            self.assertEqual(
                renamed(("and", IS, bound), "a", "c"), ("and", ("is", "T", plain_term("c"), 1), bound))
            self.assertEqual(
                renamed((kind, "b", ("or", EQUAL, (kind, "a", EQUAL))), "a", "c"),
                (kind, "b", ("or", ("=", plain_term("c"), B), (kind, "a", EQUAL))))

    def test_variable_that_is_not_there(self):
        for formula in ATOMS + NESTED:
            self.assertEqual(renamed(formula, "x", "y"), formula)

    def test_same_variable(self):
        for formula in ATOMS + NESTED:
            self.assertEqual(renamed(formula, "a", "a"), formula)

    def test_captured(self):
        for kind in ("some", "all"):
            for formula in (
                    (kind, "b", EQUAL), (kind, "b", IS), ("not", (kind, "b", IS)), ("and", ("true",), (kind, "b", IS)),
                    ("or", (kind, "b", IS), ("true",)), (kind, "c", (kind, "b", IS)), (kind, "b", (kind, "c", IS)),
                    (kind, "b", ("or", (kind, "a", IS), IS)), (kind, "b", (kind, "b", IS))):
                with self.subTest(formula=formula), self.assertRaises(Captured):
                    renamed(formula, "a", "b")

    def test_not_captured(self):
        for kind in ("some", "all"):
            for inside in (
                    (kind, "b", ("=", B, B)), (kind, "b", ("true",)), (kind, "b", (kind, "a", EQUAL)),
                    (kind, "a", (kind, "b", EQUAL)), (kind, "b", ("and", (kind, "a", IS), ("=", B, B)))):
                self.assertEqual(renamed(inside, "a", "b"), inside)
                self.assertEqual(
                    renamed(("and", IS, inside), "a", "b"), ("and", ("is", "T", B, 1), inside))
            self.assertEqual(renamed((kind, "c", EQUAL), "a", "b"), (kind, "c", ("=", B, B)))

    def test_meaning(self):
        checked = 0
        for formula in drawn_formulas(2, 150, 3):
            for old, new in (("a", "b"), ("b", "z"), ("c", "a")):
                if old not in free(formula):
                    self.assertEqual(renamed(formula, old, new), formula)
                    continue
                try:
                    other = renamed(formula, old, new)
                except Captured:
                    continue
                checked += 1
                self.assertTrue(is_formula(other))
                self.assertNotIn(old, free(other))
                for values in ({"a": 0, "b": 1, "c": 2}, {"a": 3, "b": 7, "c": 3}):
                    values["z"] = 5
                    before = dict(values)
                    before[old] = values[new]
                    self.assertEqual(
                        holds_below(other, values, SEQUENCES, 4), holds_below(formula, before, SEQUENCES, 4))
        self.assertGreater(checked, 50)


class Putting(unittest.TestCase):

    def test_atoms(self):
        for formula, found in (
                (("true",), ("true",)), (EQUAL, ("=", plain_term("", 7), B)),
                (("<", B, plain_term("ab", 3)), ("<", B, plain_term("b", 10))),
                (("is", "A", plain_term("aab", 9), 2), ("is", "A", plain_term("b", 23), 2)),
                (("same", "A", A, "C", plain_term("aaaa", 100)),
                 ("same", "A", plain_term("", 7), "C", plain_term("", 128)))):
            self.assertEqual(put(formula, "a", 7), found)

    def test_within(self):
        zero = plain_term("")
        for kind in ("and", "or"):
            self.assertEqual(put((kind, EQUAL, IS), "a", 0), (kind, ("=", zero, B), ("is", "T", zero, 1)))
        self.assertEqual(put(("not", IS), "a", 0), ("not", ("is", "T", zero, 1)))
        for kind in ("some", "all"):
            self.assertEqual(put((kind, "b", EQUAL), "a", 0), (kind, "b", ("=", zero, B)))

    def test_bound_ones_stay(self):
        for kind in ("some", "all"):
            bound = (kind, "a", EQUAL)
            self.assertEqual(put(bound, "a", 5), bound)
            self.assertEqual(put(bound, "a", 2000), bound)
            self.assertEqual(put(("and", IS, bound), "a", 5), ("and", ("is", "T", plain_term("", 5), 1), bound))

    def test_variable_that_is_not_there(self):
        for formula in ATOMS + NESTED:
            self.assertEqual(put(formula, "x", 1000), formula)
            self.assertEqual(put(formula, "x", 5000), formula)

    def test_too_great(self):
        for variables, constant, added in (
                ("a", 0, 1000), ("a", 1, 999), ("a", 1000, 0), ("aa", 0, 500), ("aab", 2, 499), ("aaaa", 0, 250),
                ("aaaa", 996, 1)):
            for formula in (("=", plain_term(variables, constant), B), ("is", "T", plain_term(variables, constant), 0)):
                found = put(formula, "a", added)
                self.assertIn(plain_term(variables.replace("a", ""), 1000), found)
                self.assertTrue(is_formula(found))
                for wrapped in (formula, ("not", formula), ("or", ("true",), formula), ("some", "c", formula)):
                    with self.assertRaises(TooGreat):
                        put(wrapped, "a", added + 1)
        for formula in (("=", B, A), ("<", B, A), ("same", "T", B, "T", A), ("same", "T", A, "T", B), ("<", A, B)):
            self.assertTrue(is_formula(put(formula, "a", 1000)))
            with self.assertRaises(TooGreat):
                put(formula, "a", 1001)

    def test_meaning(self):
        source = random.Random(8)
        checked = 0
        for formula in drawn_formulas(3, 150, 3):
            variable, constant = source.choice("abc"), source.randrange(6)
            try:
                other = put(formula, variable, constant)
            except TooGreat:
                continue
            checked += 1
            self.assertNotIn(variable, free(other))
            values = {"a": 1, "b": 2, "c": 4}
            values[variable] = constant
            self.assertEqual(
                holds_below(other, values, SEQUENCES, 4), holds_below(formula, values, SEQUENCES, 4))
        self.assertGreater(checked, 50)


if __name__ == "__main__":
    unittest.main()
