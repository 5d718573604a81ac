"""5.1, 5.2, 5.4 to 5.9: from formulas to automata."""

import itertools
import random
import unittest

from automatics.automaton import same
from automatics.basic import constant, equal, less, linear, multiple
from automatics.combine import everything, nothing, opposite, placed
from automatics.compiling import compiled, spelled
from automatics.digits import takes
from automatics.errors import BadValues, OtherBase, TooMany, TooWide
from automatics.formula import both_ways, free, implies, term
from automatics.formulatext import formula_of, formula_text
from automatics.knownseq import powers, rudin_shapiro, thue_morse
from automatics.plain import holds_below
from automatics.project import looked, looked_both
from automatics.sequence import Sequence
from automatics.steady import is_steady
from tests.formulas import (
    SEQUENCES, SEQUENCES_BY_BASE, drawn_formulas, guarded_formula, long_sequence, nested, plain_term, rows_of_values)
from tests.helpers import parts_of, plain_least, sequence_parts

# No value of a term of a guarded formula is as great as this.
BOUND = 60


def from_text(text, base=2, sequences=None):
    """The automaton of the formula with a text."""
    return compiled(formula_of(text), base, SEQUENCES_BY_BASE[base] if sequences is None else sequences)


class Meaning(unittest.TestCase):

    def check(self, formula, base, most, bound=BOUND):
        """Compares the automaton of a formula with its truth for small numbers."""
        sequences = SEQUENCES_BY_BASE[base]
        found = compiled(formula, base, sequences)
        self.assertEqual((found.base, found.tracks), (base, len(free(formula))))
        self.assertEqual(parts_of(found), parts_of(plain_least(found)))
        self.assertTrue(is_steady(found))
        for values in rows_of_values(formula, most):
            numbers = tuple(values[variable] for variable in free(formula))
            self.assertEqual(takes(found, numbers), holds_below(formula, values, sequences, bound), formula_text(formula))

    def check_drawn(self, seed, base, count, deepest, variables, most):
        """Compares drawn formulas, but for the few that lead to too many states."""
        source = random.Random(seed)
        done = 0
        for _ in range(count):
            formula = guarded_formula(source, deepest, variables)
            try:
                compiled(formula, base, SEQUENCES_BY_BASE[base])
            except TooMany:
                continue
            self.check(formula, base, most)
            done += 1
        self.assertGreater(done, count * 4 // 5)

    def test_drawn_formulas(self):
        for base in (2, 3, 4):
            self.check_drawn(base, base, 60, 3, "abc", 4)

    def test_drawn_formulas_of_four_variables(self):
        self.check_drawn(9, 2, 40, 2, "dgxz", 3)

    def test_atoms(self):
        for base in (2, 3, 4):
            for text in (
                    "true", "a = b", "a < b", "b < a", "a + a = b", "a + b < c + 2", "a + a + a + a = b + b + b + 5",
                    "A[a] = @1", "T[a] = @0", "T[a] = @9", "T[a + a] = @1", "S[a + 3] = @1", "T[a + b + c] = @1",
                    "T[a] = S[a]", "T[a] = S[b]", "S[b] = T[a]", "T[a] = T[b + 1]", "T[a + 1] = T[b]",
                    "T[a + b] = A[b + c]", "T[b + 1] = T[a + a]"):
                self.check(formula_of(text), base, 9 if text.count("c") == 0 else 5)

    def test_atoms_without_variables(self):
        for text in ("3 = 3", "3 = 4", "3 < 3", "3 < 4", "4 < 3", "1000 = 0", "T[0] = @0", "T[7] = @1", "T[5] = S[6]",
                     "T[3] = T[0]"):
            for base in (2, 3, 4):
                self.check(formula_of(text), base, 1)

    def test_a_variable_on_both_sides(self):
        # The variable has a track, though it does not matter.
        for text, found in (
                ("a = a", everything(2, 1)), ("a < a", nothing(2, 1)), ("a < a + 1", everything(2, 1)),
                ("a + b = a + c", placed(equal(2), 3, (1, 2))), ("a + b = a", placed(constant(2, 0), 2, (1,))),
                ("a + a < a + b", less(2)), ("a + b = a + 7", placed(constant(2, 7), 2, (1,)))):
            self.assertTrue(same(from_text(text), found))

    def test_a_variable_several_times(self):
        for text, found in (
                ("a + a + a = b + b", linear(2, (3, -2), 0, "=")), ("a + a + b = 9", linear(2, (2, 1), -9, "=")),
                ("5 < c + c + c + c", linear(2, (-4,), 5, "<")), ("a + a + a + a = a + a", constant(2, 0)),
                ("b + c + 1000 = a", linear(2, (-1, 1, 1), 1000, "="))):
            self.assertTrue(same(from_text(text), found))

    def test_order_of_the_tracks(self):
        self.assertTrue(same(from_text("y < x"), placed(less(2), 2, (1, 0))))
        self.assertTrue(same(from_text("x < y"), less(2)))
        self.assertTrue(same(from_text("(z = 3 & y < x)"), from_text("(y < x & z = 3)")))
        found = from_text("(z = 3 & y < x)")
        self.assertTrue(takes(found, (2, 1, 3)))
        self.assertFalse(takes(found, (1, 2, 3)))

    def test_same_of_one_variable(self):
        for base in (2, 3, 4):
            self.assertTrue(same(from_text("T[a] = T[a]", base), everything(base, 1)))
            self.check(formula_of("T[x] = A[x]"), base, 40)

    def test_bound_variables_that_are_not_free(self):
        for kind in ("some", "all"):
            for text in ("a = 3", "true", "T[a] = @1", "(a < b & 2 < c)"):
                inner = formula_of(text)
                self.assertTrue(same(compiled((kind, "x", inner), 2, SEQUENCES), compiled(inner, 2, SEQUENCES)))

    def test_a_variable_free_and_bound(self):
        self.check(formula_of("(a < 5 & some a ((a < 9 & T[a] = @1)))"), 2, 9)
        self.check(formula_of("(some a ((a < b & a + a = b)) | a = b)"), 2, 9)
        self.check(formula_of("all a ((!(a < b) | some a ((a < c & a = b))))"), 2, 6)
        self.check(formula_of("some a ((a < b & some a ((a < 3 & a + 2 = b))))"), 2, 9)

    def test_one_number_for_all(self):
        # "some" and "all" in another order mean something else.
        self.assertEqual(from_text("all a (some b (a < b))").accepting, (0,))
        self.assertEqual(from_text("some b (all a (a < b))").accepting, ())
        self.assertEqual(from_text("some b (all a (!(a < b)))").accepting, (0,))

    def test_not(self):
        for text in ("a < b", "true", "T[a] = @1", "a + b = c"):
            inner = formula_of(text)
            self.assertTrue(same(compiled(("not", inner), 2, SEQUENCES), opposite(compiled(inner, 2, SEQUENCES))))

    def test_look_ups(self):
        sequences = {"T": thue_morse(), "R": rudin_shapiro()}
        self.assertTrue(same(from_text("R[x] = @1", 2, sequences), looked(rudin_shapiro(), 1)))
        self.assertTrue(same(from_text("R[x] = T[y]", 2, sequences), looked_both(rudin_shapiro(), thue_morse())))
        self.assertTrue(same(
            from_text("R[y] = T[x]", 2, sequences), placed(looked_both(rudin_shapiro(), thue_morse()), 2, (1, 0))))

    def test_values_far_beyond(self):
        sequences = {"P": powers(4), "Q": powers(2)}
        # The first power of 4 above 1000 is 1024; of the numbers that are tried, none is one.
        for text, truth in (
                ("some b ((1000 < b & P[b] = @1))", True),
                ("some b ((1000 < b & (P[b] = @1 & some c (b = c + c + 1))))", False),
                ("all b ((!(P[b] = @1) | b < 1000))", False),
                ("all a (some b ((a < b & P[b] = @1)))", True),
                ("some a (some b ((1000 < a & (a + 1000 < b & (P[a] = @1 & P[b] = @1)))))", True)):
            self.assertEqual(from_text(text, 4, sequences).accepting, (0,) if truth else (), text)
        # There is a power of 2 between two bounds, or there is none.
        found = from_text("some b ((a + a + a + a + 900 < b & (b < a + a + 1000 & Q[b] = @1)))", 2, sequences)
        for a in range(200):
            rule = any(4 * a + 900 < 2 ** at < 2 * a + 1000 for at in range(20))
            self.assertEqual(takes(found, (a,)), rule)
        great = from_text("some b (some c (some d ((b = a + a + a + a & (c = b + b + b + b & d = c + c + c + c)))))")
        self.assertTrue(same(great, everything(2, 1)))
        far = from_text("some b ((b + b + b + 7 = a & T[b] = @0))", 2, {"T": thue_morse()})
        for a in (10 ** 30, 10 ** 30 + 1, 10 ** 30 + 2):
            self.assertEqual(takes(far, (a,)), (a - 7) % 3 == 0 and thue_morse().at((a - 7) // 3) == 0)

    def test_formulas_deeper_than_promised(self):
        for kind in ("not", "and", "or", "some", "all"):
            self.assertEqual(compiled(nested(kind, 30), 2, {}).accepting, (0,))

    def test_constants_greater_than_promised(self):
        found = compiled(("=", plain_term("a", 1001), plain_term("b")), 2, {})
        self.assertTrue(takes(found, (5, 1006)))
        self.assertFalse(takes(found, (5, 1005)))

    def test_arguments_are_not_changed(self):
        sequences = {"T": thue_morse(), "S": rudin_shapiro()}
        before = {name: sequence_parts(sequence) for name, sequence in sequences.items()}
        first = from_text("all a (T[a + b] = S[a])", 2, sequences)
        self.assertEqual({name: sequence_parts(sequence) for name, sequence in sequences.items()}, before)
        self.assertIsNot(first, from_text("all a (T[a + b] = S[a])", 2, sequences))


class Errors(unittest.TestCase):

    # Each of these alone raises what it is called.
    missing = formula_of("X[a] = @1")
    other = formula_of("P[a] = @1")
    wide = formula_of("a + b + c = d + e + f")
    many = formula_of("(L[a] = @1 & M[b] = @1)")

    sequences = {"P": powers(3), "T": thue_morse(), "L": long_sequence(2, 71), "M": long_sequence(2, 73)}

    def check(self, error, formula, base=2, sequences=None):
        with self.assertRaises(error):
            compiled(formula, base, self.sequences if sequences is None else sequences)

    def test_one_at_a_time(self):
        self.check(BadValues, self.missing)
        self.check(OtherBase, self.other)
        self.check(TooWide, self.wide)
        self.check(TooMany, self.many)

    def test_order(self):
        ordered = ((BadValues, self.missing), (OtherBase, self.other), (TooWide, self.wide), (TooMany, self.many))
        for (error, first), (_, second) in itertools.combinations(ordered, 2):
            self.check(error, ("and", first, second))
            self.check(error, ("or", second, first))
            self.check(error, ("not", ("and", second, ("some", "z", first))))

    def test_all_names_are_looked_for_first(self):
        self.check(BadValues, formula_of("P[a] = X[a]"))
        self.check(BadValues, formula_of("X[a] = P[a]"))
        self.check(BadValues, formula_of("some x (all y (X[x + y + 1] = @0))"))
        self.check(BadValues, formula_of("T[a] = @1"), 2, {})

    def test_other_base(self):
        self.check(OtherBase, formula_of("T[a] = @1"), 3)
        self.check(OtherBase, formula_of("T[a] = P[a]"), 2)
        self.check(OtherBase, formula_of("T[a] = P[a]"), 3)
        self.check(OtherBase, formula_of("P[a + 1] = @1"), 4)

    def test_sequences_that_do_not_occur_do_not_matter(self):
        self.assertTrue(same(compiled(formula_of("a < b"), 4, self.sequences), less(4)))

    def test_five_free_variables(self):
        for text in ("a + b + c = d + e", "(a + b < c + d & e = 3)", "T[a + b + c] = T[d]", "T[a + b + c + d] = @1",
                     "some f ((f < a & b + c < d))", "(T[a + b] = T[c + d] | a < e)"):
            self.assertEqual(len(free(formula_of(text))), compiled(formula_of(text), 2, self.sequences).tracks)

    def test_six_free_variables(self):
        for text in ("(a + b + c = d + e & f = 1)", "some f (a + b + c = d + e + f)", "!(a + b + c + d = w + x + y + z)",
                     "all a (all b (all c (all d (all e (all f ((a + b + c < d & e < f)))))))"):
            self.check(TooWide, formula_of(text))

    def test_six_free_variables_only_where_it_is_spelled(self):
        # Only the new variable is the sixth one.
        for text in ("T[a + b + c] = T[d + e]", "T[a] = T[b + c + d + e]", "T[a + b + c + d] = T[e]",
                     "some a (T[a + b + c] = T[d + e])", "all e (T[a + b + c] = T[d + e])"):
            self.check(TooWide, formula_of(text))

    def test_number_of_pairs(self):
        sequences = {"L": long_sequence(3, 50), "M": long_sequence(3, 100), "N": long_sequence(3, 101)}
        for text in ("(L[a] = @1 & M[b] = @1)", "(L[a] = @1 | M[b] = @1)"):
            self.assertEqual(compiled(formula_of(text), 3, sequences).tracks, 2)
        for text in ("(L[a] = @1 & N[b] = @1)", "(L[a] = @1 | N[b] = @1)", "some a ((N[a] = @1 & L[b] = @1))"):
            self.check(TooMany, formula_of(text), 3, sequences)
        self.assertEqual(compiled(formula_of("L[a] = M[b]"), 3, sequences).tracks, 2)
        self.check(TooMany, formula_of("L[a] = N[b]"), 3, sequences)

    def test_pairs_of_one_number(self):
        # The same number leads to a state and itself only.
        long = long_sequence(2, 1999)
        self.assertTrue(same(compiled(formula_of("T[a] = T[a]"), 2, {"T": long}), everything(2, 1)))

    def test_number_of_sets(self):
        sequences = {"T": rudin_shapiro()}
        text = "all u ((!(u < n) | T[s + u] = T[i + u]))"
        self.check(TooMany, formula_of(text), 2, sequences)
        self.assertEqual(compiled(formula_of(text[7:-1]), 2, sequences).tracks, 4)


class Spelled(unittest.TestCase):

    def check(self, formula, expected):
        found = spelled(formula)
        self.assertEqual(found, expected)
        self.assertEqual(repr(found), repr(expected))

    def test_is(self):
        for variables, constant, y in (
                ("", 0, "a"), ("", 7, "a"), ("a", 1, "b"), ("b", 1, "a"), ("aa", 0, "b"), ("bb", 3, "a"),
                ("ab", 0, "c"), ("acd", 0, "b"), ("abcd", 1000, "e"), ("z", 1, "a")):
            index = plain_term(variables, constant)
            place = plain_term(y)
            self.check(
                ("is", "T", index, 4), ("some", y, ("and", ("=", place, index), ("is", "T", place, 4))))

    def test_same_with_a_first_term_that_is_not_just_a_variable(self):
        for first, second, y in (
                (term("", 0), term("a", 0), "b"), (term("", 0), term("", 0), "a"), (term("a", 1), term("b", 0), "c"),
                (term("bb", 0), term("cc", 0), "a"), (term("ac", 0), term("a", 0), "b"), (term("aa", 0), term("b", 5), "c"),
                (term("abcd", 0), term("efgh", 0), "i")):
            place = plain_term(y)
            self.check(
                ("same", "S", first, "T", second),
                ("some", y, ("and", ("=", place, first), ("same", "S", place, "T", second))))

    def test_same_with_a_second_term_that_is_not_just_a_variable(self):
        for first, second, y in (
                ("a", term("", 0), "b"), ("a", term("a", 1), "b"), ("b", term("b", 1), "a"), ("c", term("ab", 0), "d"),
                ("a", term("bb", 0), "c")):
            place = plain_term(y)
            self.check(
                ("same", "S", plain_term(first), "T", second),
                ("some", y, ("and", ("=", place, second), ("same", "S", plain_term(first), "T", place))))

    def test_all(self):
        for text in ("true", "x = y", "all y (T[x] = @1)", "some x (T[x + 1] = T[0])"):
            inner = formula_of(text)
            self.check(("all", "x", inner), ("not", ("some", "x", ("not", inner))))

    def test_none(self):
        for text in (
                "true", "a = b", "a + 3 < b + c", "0 = 0", "T[a] = @3", "T[a] = S[b]", "T[a] = T[a]", "!(T[a + 1] = @0)",
                "(T[a + 1] = @0 & true)", "(T[0] = T[0] | all a (true))", "some a (all b (T[a + b] = @1))",
                "some a (T[a + 1] = @1)"):
            self.assertIsNone(spelled(formula_of(text)))

    def test_it_means_the_same(self):
        done = 0
        for formula in drawn_formulas(5, 300, 1, "abx"):
            other = spelled(formula)
            if other is None:
                continue
            self.assertEqual(free(other), free(formula))
            try:
                found = compiled(formula, 2, SEQUENCES)
            except TooMany:
                with self.assertRaises(TooMany):
                    compiled(other, 2, SEQUENCES)
                continue
            self.assertTrue(same(found, compiled(other, 2, SEQUENCES)))
            done += 1
        self.assertGreater(done, 50)


class SameMeaning(unittest.TestCase):

    def test_same_meaning(self):
        for first, second in (
                ("a < b", "some c (a + c + 1 = b)"),
                ("!(a < b)", "(b < a | a = b)"),
                ("T[a] = T[b]", "((T[a] = @0 & T[b] = @0) | (T[a] = @1 & T[b] = @1))"),
                ("all x (T[x] = T[x + x])", "true"),
                ("T[a + 1] = @1", "some x ((x = a + 1 & T[x] = @1))"),
                ("all x ((!(x < a) | x < b))", "!(b < a)"),
                ("some x (a = x + x + x)", "!(some x ((a = x + x + x + 1 | a = x + x + x + 2)))"),
                ("(a = b & b = c)", "(c = b & a = c)"),
                ("all a (some b ((a = b + b | a = b + b + 1)))", "true")):
            self.assertTrue(same(from_text(first), from_text(second)), first)

    def test_other_meaning(self):
        for first, second in (
                ("a < b", "b < a"), ("a < b", "!(b < a)"), ("T[a] = @1", "T[a] = @0"), ("true", "0 = 1"),
                ("T[a + b] = @1", "T[a + b + 1] = @1")):
            self.assertFalse(same(from_text(first), from_text(second)), first)

    def test_formulas_made_of_others(self):
        for p, q in (("T[a] = @1", "a < b"), ("a = 5", "b < a"), ("true", "a = b")):
            p, q = formula_of(p), formula_of(q)
            for base in (2, 3, 4):
                sequences = SEQUENCES_BY_BASE[base]
                self.assertTrue(same(
                    compiled(implies(p, q), base, sequences), compiled(("not", ("and", p, ("not", q))), base, sequences)))
                self.assertTrue(same(
                    compiled(both_ways(p, q), base, sequences),
                    compiled(("or", ("and", p, q), ("and", ("not", p), ("not", q))), base, sequences)))

    def test_sentences(self):
        for text, truth in (
                ("true", True), ("!(true)", False), ("some a (a = 5)", True), ("all a (a = 5)", False),
                ("all a (some b (b = a + 1))", True), ("all a (some b (a = b + 1))", False),
                ("all a (some b ((a < b & T[b] = @1)))", True),
                ("some a (all u ((!(u < 3) | T[a + u] = T[a])))", False),
                ("some a ((T[a] = T[a + 1] & T[a + 1] = T[a + 2]))", False),
                ("some a ((T[a] = T[a + 1] & T[a + 2] = T[a + 3]))", True)):
            found = from_text(text)
            self.assertEqual(found.rows, ((0,),))
            self.assertEqual(found.accepting, (0,) if truth else (), text)

    def test_examples(self):
        found = compiled(("some", "b", ("=", term("a", 0), term("bb", 0))), 2, {})
        self.assertEqual(parts_of(found), (2, 1, ((0, 1), (0, 1)), (0,)))
        found = compiled(formula_of("some b (T[a + b] = T[a + b + 1])"), 2, {"T": thue_morse()})
        self.assertEqual(parts_of(found), (2, 1, ((0, 0),), (0,)))

    def test_residues(self):
        for base in (2, 3, 4):
            self.assertTrue(same(from_text("some b (a = b + b + b + b + 3)", base), multiple(base, 4, 3)))


class OddSequences(unittest.TestCase):

    def test_sequences_that_are_not_least(self):
        # States that are alike, some that are not reached, and a 0 that leads from the first state to another one.
        odd = Sequence(2, [(1, 2), (0, 3), (3, 1), (2, 0), (4, 0)], (0, 0, 1, 1, 5))
        for text in ("T[a] = @1", "T[a] = T[b]", "T[a] = T[b + 1]", "some a ((a < b & T[a + b] = @0))", "T[a] = @5"):
            self.assertTrue(same(from_text(text, 2, {"T": odd}), from_text(text, 2, {"T": thue_morse()})))


if __name__ == "__main__":
    unittest.main()
