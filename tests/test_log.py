"""6.5, 6.7 and 6.9: logs that say how automata were found."""

import random
import unittest

from automatics.automaton import Automaton, same
from automatics.check import fault
from automatics.compiling import compiled
from automatics.errors import BadValues, OtherBase, TooMany, TooWide
from automatics.formula import free, term
from automatics.formulatext import formula_of
from automatics.knownseq import powers, rudin_shapiro, thue_morse
from automatics.log import log_of, sizes, told
from automatics.sequence import Sequence
from tests.formulas import (
    SEQUENCES, SEQUENCES_BY_BASE, drawn_formulas, guarded_formula, long_sequence, nested, plain_term)
from tests.helpers import parts_of, sequence_parts

ATOMS = (
    "true", "a = b", "a < b", "a + a + 3 < b + c", "a < a", "0 = 0", "2 < 1", "a + 1000 = b", "T[a] = @1", "T[a] = @9",
    "T[a] = S[b]", "S[b] = T[a]", "T[a] = T[a]", "A[a] = T[a]", "T[a + 1] = @1", "T[0] = @0", "T[a + a] = T[b]",
    "T[a] = T[b + 1]", "T[a + b] = T[b + c]", "T[1] = S[2]")
OTHERS = (
    "!(a < b)", "!(true)", "(a < b & T[a] = @1)", "(T[a] = @1 | T[b] = @1)", "(a = b & c = d)", "(true | a = a)",
    "some x (a = x + x)", "some x (a = b)", "some a (a = a)", "all x (a < b + x)", "all x (true)",
    "some x (all y ((!(y < x) | T[a + x] = T[a + y])))", "((a = b & a = b) & (a = b | a = b))")


def balanced(formulas):
    """Joins formulas by "and", two and two, in a tree that is as flat as can be."""
    while len(formulas) > 1:
        pairs = [("and", *pair) for pair in zip(formulas[::2], formulas[1::2])]
        formulas = pairs + formulas[len(formulas) // 2 * 2:]
    return formulas[0]


def many_atoms(count):
    """So many atoms whose automata have one state from the beginning on."""
    return [("=", plain_term("", at), plain_term("", at)) for at in range(count)]


class Logs(unittest.TestCase):

    def check(self, formula, base, sequences):
        log = log_of(formula, base, sequences)
        self.assertIs(type(log), tuple)
        self.assertTrue(all(type(entry) is tuple and len(entry) == 7 for entry in log))
        self.assertIsNone(fault(log, formula, base, sequences))
        self.assertEqual(log[-1][3], formula)
        self.assertEqual(log[-1][2], tuple(free(formula)))
        found = told(log, base)
        self.assertIs(type(found), Automaton)
        self.assertEqual(parts_of(found), parts_of(compiled(formula, base, sequences)))
        self.assertEqual((found.rows, found.accepting), log[-1][4:6])
        self.assertEqual(sizes(log), [len(entry[4]) for entry in log])
        self.assertEqual(sizes(log)[-1], found.size)
        return log

    def test_formulas_of_all_kinds(self):
        for base in (2, 3, 4):
            for text in ATOMS + OTHERS:
                self.check(formula_of(text), base, SEQUENCES_BY_BASE[base])

    def test_drawn_formulas(self):
        done = 0
        formulas = drawn_formulas(4, 60, 3)
        source = random.Random(6)
        formulas.extend(guarded_formula(source, 3) for _ in range(60))
        for formula in formulas:
            try:
                compiled(formula, 2, SEQUENCES)
            except TooMany:
                with self.assertRaises(TooMany):
                    log_of(formula, 2, SEQUENCES)
                continue
            self.check(formula, 2, SEQUENCES)
            done += 1
        self.assertGreater(done, 90)

    def test_all_rules_come_up(self):
        rules = set()
        for text in ATOMS + OTHERS:
            rules.update(entry[0] for entry in log_of(formula_of(text), 2, SEQUENCES))
        self.assertEqual(rules, {
            "true", "compare", "look", "look both", "not", "and", "or", "some", "spell", "least"})

    def test_deep_formulas(self):
        for kind in ("not", "and", "or", "some", "all"):
            for inner in (("true",), formula_of("T[x + y + 1] = T[x]")):
                self.check(nested(kind, 12, inner), 2, SEQUENCES)

    def test_great_steps(self):
        long = {"T": long_sequence(2, 1999), "L": long_sequence(3, 50), "M": long_sequence(3, 100)}
        self.check(formula_of("T[a] = T[a]"), 2, long)
        self.check(formula_of("T[a] = @1"), 2, long)
        log = self.check(formula_of("(L[a] = @1 & M[b] = @1)"), 3, long)
        self.assertEqual(max(sizes(log)), 5000)

    def test_sequences_that_are_not_least(self):
        odd = Sequence(2, [(1, 2), (0, 3), (3, 1), (2, 0), (4, 0)], (0, 0, 1, 1, 5))
        for text in ("T[a] = @1", "T[a] = @5", "T[a] = T[b]", "T[a] = T[b + 1]", "all a (T[a] = T[a])"):
            self.check(formula_of(text), 2, {"T": odd})

    def test_arguments_are_not_changed(self):
        sequences = {"T": thue_morse(), "S": rudin_shapiro()}
        before = {name: sequence_parts(sequence) for name, sequence in sequences.items()}
        log = log_of(formula_of("some a (T[a + b] = S[a])"), 2, sequences)
        self.assertEqual({name: sequence_parts(sequence) for name, sequence in sequences.items()}, before)
        copied = eval(repr(log))
        told(log, 2)
        sizes(log)
        self.assertEqual(log, copied)


class Errors(unittest.TestCase):

    sequences = {"P": powers(3), "T": thue_morse(), "L": long_sequence(2, 71), "M": long_sequence(2, 73)}

    def check(self, error, text):
        with self.assertRaises(error):
            log_of(formula_of(text), 2, self.sequences)

    def test_what_compiled_raises(self):
        self.check(BadValues, "X[a] = @1")
        self.check(BadValues, "(P[a] = @1 & X[a] = @1)")
        self.check(OtherBase, "P[a] = @1")
        self.check(OtherBase, "(a + b + c = d + e + f & P[a] = T[a])")
        self.check(TooWide, "a + b + c = d + e + f")
        self.check(TooWide, "T[a + b + c] = T[d + e]")
        self.check(TooWide, "((L[a] = @1 & M[b] = @1) & a + b + c = d + e + f)")
        self.check(TooMany, "(L[a] = @1 & M[b] = @1)")
        self.check(TooMany, "L[a] = M[b]")

    def test_number_of_entries(self):
        # 200 atoms and the 199 joined pairs.
        formula = balanced(many_atoms(200))
        self.assertEqual(len(log_of(formula, 2, {})), 399)
        log = log_of(("not", formula), 2, {})
        self.assertEqual(len(log), 400)
        self.assertIsNone(fault(log, ("not", formula), 2, {}))
        with self.assertRaises(TooMany):
            log_of(("not", ("not", formula)), 2, {})
        self.assertEqual(compiled(("not", ("not", formula)), 2, {}).accepting, (0,))

    def test_what_raises_comes_before_the_number_of_entries(self):
        with self.assertRaises(TooWide):
            log_of(("and", balanced(many_atoms(500)), formula_of("a + b + c = d + e + f")), 2, {})
        with self.assertRaises(BadValues):
            log_of(("and", balanced(many_atoms(500)), formula_of("T[a] = @1")), 2, {})

    def test_what_stands_several_times_is_found_once(self):
        inner = formula_of("(a = b | a < b)")
        for _ in range(9):
            inner = ("and", inner, inner)
        self.assertLess(len(log_of(inner, 2, {})), 40)


class Example(unittest.TestCase):

    def test_example(self):
        formula = ("some", "b", ("=", term("a", 0), term("bb", 0)))
        log = log_of(formula, 2, {})
        rules = [entry[0] for entry in log]
        self.assertEqual(rules[0], "compare")
        self.assertEqual(log[0][3], formula[2])
        # 2 is not above the sum of the negative factors, so [6.4] does not let "over" stand for it.
        self.assertEqual(set(log[0][6]), {0, 1, -1, 2, "over", "under"})
        self.assertIn(rules[1:], (["some", "least"], ["least", "some", "least"]))
        self.assertTrue(all(type(states) is tuple and states for states in log[-2][6]))
        self.assertEqual(parts_of(told(log, 2)), (2, 1, ((0, 1), (0, 1)), (0,)))


class ToldAndSizes(unittest.TestCase):

    def test_written_out(self):
        log = (
            ("true", (), (), ("true",), ((0,),), (0,), ()),
            ("look", (), ("x",), ("is", "T", plain_term("x"), 1), ((0, 1), (1, 0)), (1,), ()),
        )
        self.assertEqual(parts_of(told(log, 2)), (2, 1, ((0, 1), (1, 0)), (1,)))
        self.assertEqual(sizes(log), [1, 2])
        self.assertTrue(same(told(log[:1], 3), Automaton(3, 0, [(0,)], [0])))
        self.assertIs(type(sizes(log)), list)


if __name__ == "__main__":
    unittest.main()
