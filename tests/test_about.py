"""8.1 to 8.3: formulas about the blocks of a sequence."""

import itertools
import re
import unittest

from automatics.about import (
    comes_again, equal_blocks, first_place, has_overlap, has_square, is_periodic, is_recurrent, mirrored, periodic_from,
    rare_after, square)
from automatics.compiling import compiled
from automatics.digits import takes
from automatics.formula import free, is_formula, names
from automatics.formulatext import formula_of, formula_text
from automatics.knownseq import paper_folding, powers, repeating, residues, thue_morse
from automatics.solve import decide

# How each formula is written in the document, with I, J, N and P for the variables that are passed.
TEXTS = {
    "equal_blocks": "all u ((!(u < N) | T[I + u] = T[J + u]))",
    "square": "(0 < P & all u ((!(u < P) | T[I + u] = T[I + P + u])))",
    "mirrored": "all u (all v ((!(u + v + 1 = N) | T[I + u] = T[I + v])))",
    "first_place": "all s ((!(s < I) | !(all u ((!(u < N) | T[s + u] = T[I + u])))))",
    "comes_again": "some s ((I < s & all u ((!(u < N) | T[s + u] = T[I + u]))))",
    "rare_after": "all s ((!((I < s & s < I + P + 1)) | !(all u ((!(u < N) | T[s + u] = T[I + u])))))",
    "periodic_from": "(0 < P & all u (T[I + u] = T[I + P + u]))",
}

CALLS = {
    "equal_blocks": (equal_blocks, "IJN"), "square": (square, "IP"), "mirrored": (mirrored, "IN"),
    "first_place": (first_place, "IN"), "comes_again": (comes_again, "IN"), "rare_after": (rare_after, "INP"),
    "periodic_from": (periodic_from, "IP")}

SENTENCES = (
    (is_periodic, "some s (some t ((0 < t & all u (T[s + u] = T[s + t + u]))))"),
    (is_recurrent, "all a (all b (some s ((a < s & all u ((!(u < b) | T[s + u] = T[a + u]))))))"),
    (has_square, "some a (some b ((0 < b & all u ((!(u < b) | T[a + u] = T[a + b + u])))))"),
    (has_overlap, "some a (some b ((0 < b & all u ((!(u < b + 1) | T[a + u] = T[a + b + u])))))"))


def inserted(text, name, letters):
    """A formula's text with the letters in the places of the variables; the items of sums are put in order."""
    text = text.replace("T[", name + "[")
    for capital, letter in letters.items():
        text = text.replace(capital, letter)
    return re.sub(r"[a-z0-9]( \+ [a-z0-9])+", in_order, text)


def in_order(found):
    """A sum with its variables in order, and the constant behind them."""
    return " + ".join(sorted(found.group().split(" + "), key=lambda item: (item.isdigit(), item)))


class Written(unittest.TestCase):

    def test_each_with_several_letters(self):
        for key, (call, capitals) in CALLS.items():
            for name in ("T", "A", "Z"):
                for letters in itertools.permutations("abinr", len(capitals)):
                    expected = inserted(TEXTS[key], name, dict(zip(capitals, letters)))
                    found = call(name, *letters)
                    self.assertEqual(formula_text(found), expected)
                    self.assertEqual(found, formula_of(expected))
                    self.assertTrue(is_formula(found))
                    self.assertEqual(free(found), sorted(letters))
                    self.assertEqual(names(found), [name])

    def test_item_by_item(self):
        i_u, j_u, u = ("sum", ("i", "u"), 0), ("sum", ("j", "u"), 0), ("sum", ("u",), 0)
        n, p, zero = ("sum", ("n",), 0), ("sum", ("p",), 0), ("sum", (), 0)
        equal = ("all", "u", ("or", ("not", ("<", u, n)), ("same", "T", i_u, "T", j_u)))
        self.assertEqual(equal_blocks("T", "i", "j", "n"), equal)
        i_p_u = ("sum", ("i", "p", "u"), 0)
        self.assertEqual(square("T", "i", "p"), (
            "and", ("<", zero, p), ("all", "u", ("or", ("not", ("<", u, p)), ("same", "T", i_u, "T", i_p_u)))))
        self.assertEqual(mirrored("T", "i", "n"), (
            "all", "u", ("all", "v", ("or", ("not", ("=", ("sum", ("u", "v"), 1), n)), (
                "same", "T", i_u, "T", ("sum", ("i", "v"), 0))))))
        s, i, s_u = ("sum", ("s",), 0), ("sum", ("i",), 0), ("sum", ("s", "u"), 0)
        block = ("all", "u", ("or", ("not", ("<", u, n)), ("same", "T", s_u, "T", i_u)))
        self.assertEqual(
            first_place("T", "i", "n"), ("all", "s", ("or", ("not", ("<", s, i)), ("not", block))))
        self.assertEqual(comes_again("T", "i", "n"), ("some", "s", ("and", ("<", i, s), block)))
        self.assertEqual(rare_after("T", "i", "n", "p"), (
            "all", "s", ("or", ("not", ("and", ("<", i, s), ("<", s, ("sum", ("i", "p"), 1)))), ("not", block))))
        self.assertEqual(
            periodic_from("T", "i", "p"), ("and", ("<", zero, p), ("all", "u", ("same", "T", i_u, "T", i_p_u))))

    def test_letters_in_the_other_order(self):
        self.assertEqual(
            formula_text(square("X", "r", "a")), "(0 < a & all u ((!(u < a) | X[r + u] = X[a + r + u])))")
        self.assertEqual(
            formula_text(rare_after("X", "q", "b", "c")),
            "all s ((!((q < s & s < c + q + 1)) | !(all u ((!(u < b) | X[s + u] = X[q + u])))))")

    def test_sentences(self):
        for call, text in SENTENCES:
            for name in ("T", "A", "Z"):
                found = call(name)
                self.assertEqual(formula_text(found), text.replace("T[", name + "["))
                self.assertEqual(found, formula_of(text.replace("T[", name + "[")))
                self.assertEqual(free(found), [])


class Meaning(unittest.TestCase):

    def test_against_looking(self):
        for sequence in (thue_morse(), paper_folding(), powers(2), repeating(2, (1, 1, 0), (0, 1, 1)), residues(3, 2)):
            members = sequence.first(400)

            def block(i, n):
                return members[i:i + n]
            rules = {
                "equal_blocks": lambda i, j, n: block(i, n) == block(j, n),
                "square": lambda i, p: p > 0 and block(i, p) == block(i + p, p),
                "mirrored": lambda i, n: block(i, n) == block(i, n)[::-1],
                "first_place": lambda i, n: all(block(s, n) != block(i, n) for s in range(i)),
                "comes_again": lambda i, n: any(block(s, n) == block(i, n) for s in range(i + 1, 300)),
                "rare_after": lambda i, n, p: all(block(s, n) != block(i, n) for s in range(i + 1, i + p + 1)),
                "periodic_from": lambda i, p: p > 0 and members[i:i + 200] == members[i + p:i + p + 200]}
            for key, (call, capitals) in CALLS.items():
                letters = capitals.lower()
                formula = call("T", *letters)
                self.assertEqual(free(formula), list(letters))
                automaton = compiled(formula, sequence.base, {"T": sequence})
                for numbers in itertools.product(range(7), repeat=len(letters)):
                    self.assertEqual(takes(automaton, numbers), rules[key](*numbers), (key, numbers))

    def test_sentences(self):
        for sequence, told in (
                (thue_morse(), (False, True, True, False)),
                (paper_folding(), (False, True, True, True)),
                (powers(2), (False, False, True, True)),
                (repeating(2, (1, 1, 0), (0, 1, 1)), (True, False, True, True)),
                (repeating(3, (), (0, 1, 2)), (True, True, True, True)),
                (repeating(4, (3,), (2,)), (True, False, True, True))):
            found = tuple(decide(call("T"), sequence.base, {"T": sequence}) for call, _ in SENTENCES)
            self.assertEqual(found, told)


if __name__ == "__main__":
    unittest.main()
