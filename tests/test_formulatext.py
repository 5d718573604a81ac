"""4.7, 4.8: texts of formulas."""

import random
import unittest

from automatics.errors import AutomaticError, BadFormula
from automatics.formula import depth, is_formula
from automatics.formulatext import formula_of, formula_text
from automatics.plain import holds_below
from tests.formulas import drawn_formulas, nested, plain_term

A, B = plain_term("a"), plain_term("b")
SMALL = "abcdefghijklmnopqrstuvwxyz"
EXAMPLE = "all a (some b ((a = b + b | a = b + b + 1)))"


def wrong_at(text):
    """The place that BadFormula tells, or None if the text is that of a formula."""
    try:
        formula_of(text)
    except BadFormula as error:
        return error.at
    return None


class Grammar:
    """All ways in which a text can begin like the text of a formula, tried at once.

    Each method takes the places where something can begin and returns those
    where it can end; `most` is the greatest number of characters that agreed.
    """

    def __init__(self, text):
        self.text = text
        self.most = 0

    def word(self, places, word):
        ends = set()
        for place in places:
            agreed = 0
            while agreed < len(word) and self.text[place + agreed:place + agreed + 1] == word[agreed]:
                agreed += 1
            self.most = max(self.most, place + agreed)
            if agreed == len(word):
                ends.add(place + agreed)
        return ends

    def words(self, places, words):
        return set().union(*(self.word(places, word) for word in words)) if places else set()

    def term(self, places):
        ends = self.words(places, map(str, range(1001)))
        pending = [(self.word(places, letter), letter, 1) for letter in SMALL]
        for found, last, many in pending:
            ends |= found
            behind = self.word(found, " + ")
            if behind:
                ends |= self.words(behind, map(str, range(1, 1001)))
                if many < 4:
                    pending.extend((self.word(behind, letter), letter, many + 1) for letter in SMALL if letter >= last)
        return ends

    def look(self, places):
        return self.word(self.term(self.words(places, (letter.upper() + "[" for letter in SMALL))), "]")

    def formula(self, places, deepest):
        if not places:
            return set()
        ends = self.word(places, "true")
        ends |= self.term(self.words(self.term(places), (" = ", " < ")))
        looked = self.word(self.look(places), " = ")
        ends |= self.words(looked, ("@" + digit for digit in "0123456789")) | self.look(looked)
        if deepest > 0:
            begun = self.word(places, "!(")
            for word in ("some ", "all "):
                begun |= self.words(self.word(places, word), (letter + " (" for letter in SMALL))
            joined = self.words(self.formula(self.word(places, "("), deepest - 1), (" & ", " | "))
            ends |= self.word(self.formula(begun | joined, deepest - 1), ")")
        return ends


def plain_at(text):
    """What wrong_at must tell."""
    grammar = Grammar(text)
    return None if len(text) in grammar.formula({0}, 12) else grammar.most


class Texts(unittest.TestCase):

    def check(self, formula, text):
        self.assertEqual(formula_text(formula), text)
        self.assertEqual(formula_of(text), formula)
        self.assertTrue(is_formula(formula_of(text)))

    def test_terms(self):
        for one, text in (
                (plain_term(""), "0"), (plain_term("", 1), "1"), (plain_term("", 9), "9"), (plain_term("", 10), "10"),
                (plain_term("", 100), "100"), (plain_term("", 999), "999"), (plain_term("", 1000), "1000"),
                (plain_term("b"), "b"), (plain_term("b", 1), "b + 1"), (plain_term("aa", 3), "a + a + 3"),
                (plain_term("ab"), "a + b"), (plain_term("axyz", 1000), "a + x + y + z + 1000"),
                (plain_term("zzzz"), "z + z + z + z"), (plain_term("t"), "t"), (plain_term("s", 20), "s + 20")):
            self.check(("=", one, A), f"{text} = a")
            self.check(("<", A, one), f"a < {text}")
            self.check(("is", "T", one, 3), f"T[{text}] = @3")
            self.check(("same", "T", one, "S", one), f"T[{text}] = S[{text}]")

    def test_atoms(self):
        self.check(("true",), "true")
        self.check(("=", A, plain_term("b", 1)), "a = b + 1")
        self.check(("<", plain_term(""), plain_term("")), "0 < 0")
        self.check(("is", "T", plain_term("a", 1), 0), "T[a + 1] = @0")
        self.check(("same", "S", A, "T", plain_term("", 7)), "S[a] = T[7]")
        for output in range(10):
            self.check(("is", "Z", A, output), f"Z[a] = @{output}")

    def test_others(self):
        self.check(("not", ("true",)), "!(true)")
        self.check(("and", ("true",), ("=", A, B)), "(true & a = b)")
        self.check(("or", ("=", A, B), ("true",)), "(a = b | true)")
        self.check(("some", "x", ("true",)), "some x (true)")
        self.check(("all", "t", ("=", plain_term("t"), plain_term("s"))), "all t (t = s)")
        self.check(
            ("and", ("not", ("or", ("true",), ("true",))), ("some", "a", ("not", ("is", "T", A, 1)))),
            "(!((true | true)) & some a (!(T[a] = @1)))")
        for letter in SMALL:
            self.check(("some", letter, ("=", plain_term(letter), A)), f"some {letter} ({letter} = a)")
            self.check(("all", letter, ("<", plain_term(letter), A)), f"all {letter} ({letter} < a)")
            self.check(("is", letter.upper(), A, 1), f"{letter.upper()}[a] = @1")

    def test_drawn_ones(self):
        for variables in ("abc", "aelmorstu", SMALL):
            for formula in drawn_formulas(len(variables), 300, 6, variables):
                self.assertEqual(formula_of(formula_text(formula)), formula)

    def test_deepest(self):
        for kind in ("not", "and", "or", "some", "all"):
            for inner in (("true",), ("=", A, B), ("is", "T", A, 1)):
                formula = nested(kind, 12, inner)
                self.assertEqual(formula_of(formula_text(formula)), formula)

    def test_example(self):
        formula = formula_of(EXAMPLE)
        self.assertEqual(formula, ("all", "a", ("some", "b", (
            "or", ("=", A, plain_term("bb")), ("=", A, plain_term("bb", 1))))))
        self.assertEqual(formula_text(formula), EXAMPLE)
        self.assertEqual(depth(formula), 3)
        self.assertTrue(holds_below(formula, {}, {}, 50))
        self.assertEqual(wrong_at("a = @"), 4)
        self.assertEqual(wrong_at("a < "), 4)

    def test_error(self):
        with self.assertRaises(AutomaticError) as caught:
            formula_of("")
        self.assertIs(type(caught.exception), BadFormula)
        self.assertIs(type(caught.exception.at), int)
        self.assertEqual(caught.exception.at, 0)


class WrongTexts(unittest.TestCase):

    def check(self, *pairs):
        for text, at in pairs:
            with self.subTest(text=text):
                self.assertEqual(wrong_at(text), at)
                self.assertEqual(plain_at(text), at)

    def test_empty(self):
        self.check(("", 0), (" ", 0), ("\n", 0), ("#", 0), ("\u00e9", 0), ("\x00", 0))

    def test_beginnings(self):
        for text in (EXAMPLE, "(!((true | 10 < z)) & some a (T[a + 1000] = S[0]))", "all a (T[b] = @3)", "a + b = c"):
            for end in range(len(text)):
                self.check((text[:end], end))

    def test_words(self):
        self.check(
            ("t", 1), ("tr", 2), ("tru", 3), ("true", None), ("trua", 3), ("tra", 2), ("ta", 1), ("t ", 2), ("t = ", 4),
            ("t r", 2), ("s", 1), ("so", 2), ("som", 3), ("some", 4), ("some ", 5), ("some a", 6), ("some a ", 7),
            ("somea", 4), ("some ab", 6), ("some A", 5), ("some 1", 5), ("some  a", 5), ("some a(", 6), ("some a  (", 7),
            ("some a true", 7), ("some a (true", 12), ("some a (true)", None), ("s = t", None), ("some = t", 5),
            ("so = t", 2), ("al", 2), ("all", 3), ("all ", 4), ("alla", 3), ("al ", 2), ("a l", 2), ("ab", 1), ("tr ", 2),
            ("T", 1), ("True", 1), ("TRUE", 1), ("Some a (true)", 1), ("false", 1), ("true ", 4), ("truee", 4),
            ("true\n", 4), ("\ntrue", 0), (" true", 0), ("true)", 4), ("true & true", 4), ("true = a", 4))

    def test_spaces(self):
        self.check(
            ("a=b", 1), ("a =b", 3), ("a = b", None), ("a  = b", 2), ("a =  b", 4), (" a = b", 0), ("a = b ", 6),
            ("a = b  ", 6), ("a = 1 ", 5), ("a = b + ", 8), ("a +b = c", 3), ("a+ b = c", 1), ("a +  b = c", 4),
            ("a\t= b", 1), ("a\u00a0= b", 1), ("a = b\n", 5), ("a = b\r\n", 5), ("(a = b &c = d)", 8),
            ("(a = b& c = d)", 6), ("( a = b & c = d)", 1), ("(a = b & c = d )", 15), ("(a = 1 & c = 1 )", 14),
            ("! (true)", 1), ("!( true)", 2), ("!(true )", 6), ("!(a = b )", 8), ("!(a = 3 )", 7), ("T [a] = @1", 1),
            ("T[ a] = @1", 2), ("T[a ] = @1", 4), ("T[1 ] = @1", 3), ("T[a]= @1", 4), ("T[a] =@1", 6),
            ("T[a] = @ 1", 8), ("T[a] = @1 ", 9), ("T[a] = S [b]", 8), ("T[a] = S[b] ", 11), ("some a( true)", 6))

    def test_numbers(self):
        self.check(
            ("0 = 0", None), ("00 = 0", 1), ("01 = 0", 1), ("0 = 00", 5), ("0 = 01", 5), ("1000 = 0", None),
            ("1001 = 0", 3), ("1010 = 0", 2 + 1), ("1100 = 0", 3), ("2000 = 0", 3), ("9999 = 0", 3), ("10000 = 0", 4),
            ("0 = 1001", 7), ("0 = 10000", 8), ("999 = 0", None), ("a + 1000 = 0", None), ("a + 1001 = 0", 7),
            ("a + 0 = 0", 4), ("a + 01 = 0", 4), ("a + 00", 4), ("0 = a + 0", 8), ("T[a + 0] = @0", 6), ("-1 = 0", 0),
            ("+1 = 0", 0), ("1_0 = 0", 1), ("1.0 = 0", 1), ("\u0661 = 0", 0), ("1\u0661 = 0", 1), ("1\u00b2 = 0", 1),
            ("a + \u0661", 4), ("1 + a = 0", 2), ("1 + 1 = 2", 2), ("0 + a = 0", 2), ("a + 1 + b = 0", 6),
            ("a + 1 + 1 = 0", 6), ("2a = 0", 1), ("a2 = 0", 1), ("a = 2b", 5), ("(a = 3 + b & true)", 7),
            ("(a = 3 +", 7), ("T[3 + a] = @0", 3), ("100", 3), ("1000", 4), ("1001", 3), ("10", 2), ("0", 1))

    def test_variables(self):
        self.check(
            ("a + b + c + d = 0", None), ("a + b + c + d + 9 = 0", None), ("a + b + c + d + e = 0", 16),
            ("a + a + a + a + a = 0", 16), ("a + a + a + a + ", 16), ("0 = a + a + a + a + a", 20),
            ("0 = a + a + a + a ", 18), ("a + a + a + a ", 14), ("b + a = 0", 4), ("a + c + b = 0", 8), ("z + y = 0", 4),
            ("z + z = 0", None), ("0 = b + a", 8), ("T[b + a] = @0", 6), ("T[a + a + a + a + a] = @0", 18),
            ("T[a] = S[b + a]", 13), ("a + A = 0", 4), ("ab = 0", 1), ("a + bc = 0", 5), ("a + = 0", 4), ("A = 0", 1),
            ("a + a + a + a + 0 = 0", 16), ("(true & b + a = 0)", 12))

    def test_signs(self):
        self.check(
            ("a > b", 2), ("a == b", 3), ("a <= b", 3), ("a != b", 2), ("a - b = 0", 2), ("a * b = 0", 2), ("a = b = c", 6),
            ("a < b < c", 6), ("a", 1), ("a ", 2), ("a =", 3), ("a b", 2), ("@1 = T[a]", 0), ("T[a] = 1", 7),
            ("T[a] < @1", 5), ("T[a] = @", 8), ("T[a] = @a", 8), ("T[a] = @10", 9), ("T[a] = T", 8), ("T[a] = t", 7),
            ("T[a] = true", 7), ("T[a] + 1", 5), ("T(a) = @1", 1), ("T[a = @1", 4), ("T[] = @1", 2), ("T[a,b] = @1", 3),
            ("T[T[a]] = @1", 2), ("TS[a] = @1", 1), ("a = T[b]", 4), ("T[a] = S[b] = @1", 11), ("S[a] = T[@1]", 9))

    def test_parentheses(self):
        self.check(
            ("(true)", 5), ("(true", 5), ("(true & true", 12), ("(true & true & true)", 12), ("(true && true)", 7),
            ("(true and true)", 6), ("(true | true))", 13), ("(true & )", 8), ("( & true)", 1), ("()", 1), ("!true", 1),
            ("!(true & true)", 6), ("!((true & true))", None), ("!(true", 6), ("!(true))", 7), ("!!(true)", 1),
            ("!(!(true))", None), ("some a true", 7), ("some a (true & true)", 12), ("some a (some b (true)", 21),
            ("all a (true))", 12), ("(a = b)", 6), ("(a = b c", 7), ("(a = b &", 8), ("(a = b |", 8), ("(a = b +", 8),
            ("(a = b & c = d & e = f)", 15), ("(a = b & c = d |", 15), ("(a = 1 & c = 2 |", 14), ("!(a = b &", 8),
            ("!(a = b +", 9), ("some a (b = c |", 14), ("(T[a] = @1 + 2", 11), ("(true + 1", 6), ("!(true +", 6))

    def test_too_deep(self):
        self.check(("!(" * 12 + "true" + ")" * 12, None), ("!(" * 13 + "true" + ")" * 13, 24), ("!(" * 12 + "!", 24))
        self.check(("(" * 12 + "true" + " & true)" * 12, None), ("(" * 13 + "true" + " & true)" * 13, 12))
        self.check(("!(" * 12 + "(", 24), ("!(" * 12 + "(true & true)", 24), ("!(" * 11 + "(true & !(true))", 30))
        self.check(("(true & " * 12 + "true" + ")" * 12, None), ("(true & " * 12 + "(true & true", 96))
        for word in ("some", "all"):
            begun = f"{word} a (" * 12
            self.check((begun + "true" + ")" * 12, None), (begun + "a = s" + ")" * 12, None))
            # The first letter of the word can still be a variable.
            self.check(
                (begun + word[0], len(begun) + 1), (begun + word[:2], len(begun) + 1),
                (begun + f"{word} b (true)", len(begun) + 1), (begun + "!", len(begun)), (begun + "(", len(begun)))
        self.check(("(!(true) & " + "!(" * 11 + "true" + ")" * 12, None))
        self.check(("(!(true) & " + "!(" * 12, 33))

    def test_behind_the_end(self):
        for text in ("true", "a = b", "0 < 1", "T[a] = @0", "S[a] = T[b]", "!(true)", "(a = b | true)", "some a (true)"):
            for more in (" ", "  ", "\n", ")", "x", "0", " & true", " + ", " + 1", " + a", "true", "(", "]", "\x00"):
                with self.subTest(text=text, more=more):
                    self.assertEqual(wrong_at(text + more), plain_at(text + more))
        self.check(("a = b\n", 5), ("a = bb", 5), ("a = b + 1 + 1", 9), ("a = b + 11", None), ("0 < 0x", 5))

    def test_changed_texts(self):
        source = random.Random(4)
        told = set()
        for formula in drawn_formulas(9, 400, 3, "abst"):
            text = formula_text(formula)
            for _ in range(3):
                at = source.randrange(len(text) + 1)
                sign = source.choice("abstTS01239 +=<@[]()!&|,")
                other = source.choice((
                    text[:at] + sign + text[at:], text[:at] + text[at + 1:], text[:at] + sign + text[at + 1:],
                    text[:at] + text[at:at + 2][::-1] + text[at + 2:], text[:at]))
                expected = plain_at(other)
                told.add(expected)
                with self.subTest(other=other):
                    self.assertEqual(wrong_at(other), expected)
        self.assertGreater(len(told), 30)


if __name__ == "__main__":
    unittest.main()
