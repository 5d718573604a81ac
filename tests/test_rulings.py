"""6.3 and 6.4: the rules of entries, and for each condition entries that break only this one."""

import unittest

from automatics.automaton import letters
from automatics.check import fault
from automatics.formulatext import formula_of
from automatics.knownseq import powers
from automatics.log import log_of
from automatics.sequence import Sequence
from tests.formulas import plain_term
from tests.logs import (
    ACCEPTING, FORMULA, PARTS, ROWS, RULE, SHOWN, VARIABLES, WORLD, changed, comparison_entry, logs)

A, B = plain_term("a"), plain_term("b")
TRUE = ("true", (), (), ("true",), ((0,),), (0,), ())
# The members of the sequence of Thue and Morse, and the squares of looked up ones.
T_ONE = ("look", (), ("a",), ("is", "T", A, 1), ((0, 1), (1, 0)), (1,), ())
T_ONE_B = ("look", (), ("b",), ("is", "T", B, 1), ((0, 1), (1, 0)), (1,), ())
T_SAME = (
    "look both", (), ("a", "b"), ("same", "T", A, "T", B), ((0, 1, 1, 0), (1, 0, 0, 1)), (0, 1), ())


class Rule(unittest.TestCase):

    def check_right(self, *entries, base=2, world=None):
        self.assertIsNone(fault(entries, entries[-1][FORMULA], base, WORLD if world is None else world))

    def check_wrong(self, *entries, base=2, world=None):
        found = fault(entries, entries[-1][FORMULA], base, WORLD if world is None else world)
        self.assertEqual(found, len(entries) - 1)

    def check_accepting(self, *entries):
        """Each state is changed from accepting to not accepting, or the other way."""
        self.check_right(*entries)
        entry = entries[-1]
        for state in range(len(entry[ROWS])):
            accepting = sorted(set(entry[ACCEPTING]) ^ {state})
            self.check_wrong(*entries[:-1], changed(entry, ACCEPTING, tuple(accepting)))

    def check_targets(self, *entries):
        """Each letter is made to lead to each state for which something else is shown."""
        entry = entries[-1]
        for state, row in enumerate(entry[ROWS]):
            for number, target in enumerate(row):
                for other in range(len(entry[ROWS])):
                    if entry[SHOWN][other] != entry[SHOWN][target]:
                        rows = changed(entry[ROWS], state, changed(row, number, other))
                        self.check_wrong(*entries[:-1], changed(entry, ROWS, rows))

    def check_shown(self, *entries):
        """What is shown for each state is changed to what is shown for each other one."""
        entry = entries[-1]
        for state, told in enumerate(entry[SHOWN]):
            for other in entry[SHOWN]:
                if other != told:
                    self.check_wrong(*entries[:-1], changed(entry, SHOWN, changed(entry[SHOWN], state, other)))
        self.check_wrong(*entries[:-1], changed(entry, SHOWN, entry[SHOWN] + entry[SHOWN][:1]))
        self.check_wrong(*entries[:-1], changed(entry, SHOWN, entry[SHOWN][:-1]))
        self.check_wrong(*entries[:-1], changed(entry, SHOWN, list(entry[SHOWN])))

    def check_doubled(self, *entries):
        """All states stand twice: nothing is changed by that."""
        entry = entries[-1]
        size = len(entry[ROWS])
        rows = tuple(tuple(target + size * (number % 2) for number, target in enumerate(row)) for row in entry[ROWS])
        accepting = entry[ACCEPTING] + tuple(state + size for state in entry[ACCEPTING])
        doubled = changed(changed(changed(entry, ROWS, rows * 2), ACCEPTING, accepting), SHOWN, entry[SHOWN] * 2)
        self.check_right(*entries[:-1], doubled)


class Plain(Rule):

    def test_true(self):
        for base in (2, 3, 4):
            self.check_right(TRUE, base=base)
        self.check_accepting(TRUE)
        self.check_wrong(changed(TRUE, VARIABLES, ("a",)))
        self.check_wrong(changed(changed(TRUE, VARIABLES, ("a",)), ROWS, ((0, 0),)))
        self.check_wrong(changed(changed(TRUE, ROWS, ((0,), (0,))), ACCEPTING, (0, 1)))
        self.check_wrong(changed(changed(TRUE, ROWS, ((1,), (1,))), ACCEPTING, (0, 1)))
        self.check_wrong(changed(TRUE, FORMULA, ("=", plain_term(""), plain_term(""))))
        self.check_wrong(TRUE, changed(TRUE, PARTS, (0,)))

    def test_look(self):
        self.check_accepting(T_ONE)
        self.check_right(changed(changed(T_ONE, FORMULA, ("is", "T", A, 7)), ACCEPTING, ()))
        self.check_wrong(changed(T_ONE, FORMULA, ("is", "T", A, 7)))
        self.check_wrong(changed(T_ONE, ROWS, ((0, 1), (0, 1))))
        self.check_wrong(changed(T_ONE, ROWS, ((1, 0), (1, 0))))
        self.check_wrong(changed(changed(T_ONE, ROWS, ((0, 1), (1, 0), (2, 2))), ACCEPTING, (1,)))
        self.check_wrong(changed(T_ONE, VARIABLES, ("b",)))
        self.check_wrong(changed(T_ONE, FORMULA, ("is", "T", plain_term("a", 1), 1)))
        self.check_wrong(changed(T_ONE, FORMULA, ("is", "T", plain_term("aa"), 1)))
        self.check_wrong(TRUE, changed(T_ONE, PARTS, (0,)))
        self.check_wrong(changed(T_ONE, RULE, "look both"))

    def test_look_has_the_rows_of_the_sequence(self):
        # Not those of another sequence with the same members.
        odd = Sequence(2, [(1, 2), (0, 3), (3, 1), (2, 0), (4, 0)], (0, 0, 1, 1, 5))
        entry = changed(changed(T_ONE, ROWS, odd.rows), ACCEPTING, (2, 3))
        self.check_right(entry, world={"T": odd})
        self.check_wrong(entry)
        self.check_wrong(T_ONE, world={"T": odd})

    def test_look_needs_a_name_with_this_base(self):
        entry = log_of(formula_of("P[a] = @1"), 3, WORLD)[0]
        self.check_right(entry, base=3)
        self.check_wrong(entry, base=3, world={})
        self.check_wrong(entry, base=3, world={"P": powers(2)})
        self.check_wrong(T_ONE, world={"S": WORLD["T"]})
        self.check_wrong(T_ONE, world={"T": Sequence(4, [(0, 1, 1, 0), (1, 0, 0, 1)], [0, 1])})
        # The sequence has other rows in the base 4; so only the base of the log is another one here.
        self.check_wrong(T_ONE, base=4)

    def test_not(self):
        entry = ("not", (0,), ("a",), ("not", T_ONE[FORMULA]), T_ONE[ROWS], (0,), ())
        self.check_accepting(T_ONE, entry)
        self.check_right(TRUE, T_ONE, changed(entry, PARTS, (1,)))
        self.check_wrong(TRUE, T_ONE, changed(entry, PARTS, (0,)))
        self.check_wrong(T_ONE, T_ONE_B, changed(entry, PARTS, (1,)))
        self.check_wrong(T_ONE, changed(entry, PARTS, (0, 0)))
        self.check_wrong(T_ONE, changed(entry, PARTS, ()))
        self.check_wrong(T_ONE, changed(entry, ROWS, ((0, 1), (1, 1))))
        self.check_wrong(T_ONE, changed(entry, FORMULA, T_ONE[FORMULA]))
        self.check_wrong(T_ONE, changed(entry, FORMULA, ("not", ("not", T_ONE[FORMULA]))))
        self.check_wrong(T_ONE, changed(entry, FORMULA, ("not", ("is", "T", A, 0))))
        self.check_wrong(T_ONE, changed(entry, FORMULA, ("not", T_ONE[FORMULA], T_ONE[FORMULA])))
        self.check_wrong(T_ONE, changed(entry, VARIABLES, ("b",)))
        self.check_wrong(T_ONE, changed(entry, SHOWN, (0,)))

    def test_spell(self):
        for text in ("T[a + 1] = @1", "T[0] = @0", "T[a + b] = S[a]", "T[a] = S[a + a]", "all x (a < x)", "all x (true)"):
            log = log_of(formula_of(text), 2, WORLD)
            entry = log[-1]
            self.assertEqual(entry[RULE], "spell")
            self.check_accepting(*log)
            self.check_wrong(*log[:-1], changed(entry, FORMULA, log[-2][FORMULA]))
            self.check_wrong(*log[:-1], changed(entry, PARTS, entry[PARTS] * 2))
            self.check_wrong(*log[:-1], changed(entry, PARTS, ()))
            self.check_wrong(*log[:-1], changed(entry, SHOWN, (0,)))
            if entry[VARIABLES]:
                self.check_wrong(*log[:-1], changed(entry, VARIABLES, ("z",) * len(entry[VARIABLES])))
                self.check_wrong(*log[:-1], changed(entry, VARIABLES, tuple("xyz"[:len(entry[VARIABLES])])))
            size = len(entry[ROWS])
            width = len(entry[ROWS][0])
            self.check_wrong(*log[:-1], changed(entry, ROWS, entry[ROWS] + ((size,) * width,)))

    def test_spell_of_something_else(self):
        log = log_of(formula_of("T[a + 1] = @1"), 2, WORLD)
        entry = log[-1]
        for text in ("T[a + 1] = @0", "T[a + 2] = @1", "S[a + 1] = @1", "T[a + a] = @1", "T[a] = @1",
                     "some b ((b = a + 1 & T[b] = @1))", "some c ((c = a + 1 & T[c] = @1))"):
            self.check_wrong(*log[:-1], changed(entry, FORMULA, formula_of(text)))
        # Another letter means the same, but is not what spelled returns.
        other = log_of(formula_of("some c ((c = a + 1 & T[c] = @1))"), 2, WORLD)
        self.check_wrong(*other, changed(entry, PARTS, (len(other) - 1,)))
        log = log_of(formula_of("all x (a < x)"), 2, WORLD)
        for text in ("all y (a < x)", "all a (a < x)", "all x (x < a)", "some x (a < x)", "all x (all x (a < x))"):
            self.check_wrong(*log[:-1], changed(log[-1], FORMULA, formula_of(text)))
        for formula in (("all", "X", formula_of("a < x")), ("all", "x"), ("all", "x", formula_of("a < x"), ()),
                        ["all", "x", formula_of("a < x")]):
            self.check_wrong(*log[:-1], changed(log[-1], FORMULA, formula))


class Compare(Rule):

    # Formula, variables, factors, constant, and from where to where the values must stand as integers.
    cases = (
        ("a = b", "ab", (1, -1), 0, -1, 1), ("a < b", "ab", (1, -1), 0, -1, 1),
        ("a + 3 = b", "ab", (1, -1), 3, -3, 1), ("a + 3 < b", "ab", (1, -1), 3, -3, 1),
        ("a = b + 3", "ab", (1, -1), -3, -1, 3), ("a < b + 3", "ab", (1, -1), -3, -1, 3),
        ("a + a < 4", "a", (2,), -4, -2, 4), ("5 = a + a + a", "a", (-3,), 5, -5, 3),
        ("a + a < b + b + c", "abc", (2, -2, -1), 0, -2, 3), ("c = a + b", "abc", (-1, -1, 1), 0, -1, 2))

    def entry(self, case, low, high, base=2):
        text, variables, factors, constant, _, _ = case
        return comparison_entry(formula_of(text), variables, factors, constant, low, high, base)

    def test_values_that_stand(self):
        for case in self.cases:
            low, high = case[4:]
            for base in (2, 3, 4):
                for more_low, more_high in ((0, 0), (1, 0), (0, 1), (5, 9)):
                    self.check_right(self.entry(case, low - more_low, high + more_high, base), base=base)

    def test_over_and_under_where_they_may_not_stand(self):
        for case in self.cases:
            low, high = case[4:]
            for base in (2, 3, 4):
                right = self.entry(case, low, high, base)
                for entry in (self.entry(case, low + 1, high, base), self.entry(case, low, high - 1, base)):
                    # Some of the values may not come up at all.
                    if set(entry[SHOWN]) != set(right[SHOWN]):
                        self.check_wrong(entry, base=base)

    def test_which_values_may_not_be_over_or_under(self):
        found = set()
        for case in self.cases:
            low, high = case[4:]
            for entry in (self.entry(case, low + 1, high), self.entry(case, low, high - 1)):
                if fault((entry,), entry[FORMULA], 2, WORLD) == 0:
                    found.add(case[0])
        self.assertGreaterEqual(len(found), 8)

    def test_each_condition(self):
        for case in self.cases[:8]:
            entry = self.entry(case, *case[4:])
            self.check_accepting(entry)
            self.check_targets(entry)
            self.check_doubled(entry)
            self.check_shown(entry)

    def test_shown_for_the_first_state(self):
        # Only 0 itself never comes from a letter of zeros alone; here it is 1 that leads to itself.
        entry = ("compare", (), (), formula_of("1 = 1"), ((0,),), (0,), (0,))
        self.check_right(entry)
        for value in (1, -1, "over", "under", False, None, "0", 0.0):
            self.check_wrong(changed(entry, SHOWN, (value,)))
            self.check_wrong(changed(changed(entry, SHOWN, (value,)), ACCEPTING, ()))

    def test_over_and_under_stay(self):
        formula = formula_of("a < b")
        entry = comparison_entry(formula, "ab", (1, -1), 0, -1, 1)
        over, under = entry[SHOWN].index("over"), entry[SHOWN].index("under")
        for one, other in ((over, under), (under, over), (over, 0), (under, 0)):
            for number in range(4):
                rows = changed(entry[ROWS], one, changed(entry[ROWS][one], number, other))
                self.check_wrong(changed(entry, ROWS, rows))
        # The other way round, all would be told wrong.
        swapped = tuple({"over": "under", "under": "over"}.get(value, value) for value in entry[SHOWN])
        self.check_wrong(changed(entry, SHOWN, swapped))

    def test_other_items(self):
        entry = self.entry(self.cases[0], -1, 1)
        for value in ("Over", "above", "", None, True, 0.0, (0,), (), "0", b"over"):
            for state in range(len(entry[SHOWN])):
                self.check_wrong(changed(entry, SHOWN, changed(entry[SHOWN], state, value)))

    def test_great_values(self):
        # The constant is 10 ** 3, and the states count up to great values if nothing is over.
        formula = formula_of("a = 1000")
        entry = comparison_entry(formula, "a", (1,), -1000, -1, 4000)
        self.check_right(entry)
        state = entry[SHOWN].index(3000)
        self.check_wrong(changed(entry, SHOWN, changed(entry[SHOWN], state, 10 ** 5000)))

    def test_formulas_and_variables(self):
        entry = self.entry(self.cases[0], -1, 1)
        for text in ("b = a", "a < b", "a = b + 1", "a = c", "a + a = b", "a = a", "!(a = b)", "true", "T[a] = T[b]"):
            self.check_wrong(changed(entry, FORMULA, formula_of(text)))
        self.check_wrong(changed(entry, VARIABLES, ("b", "a")))
        self.check_wrong(changed(entry, VARIABLES, ("a", "c")))
        self.check_wrong(TRUE, changed(entry, PARTS, (0,)))

    def test_a_variable_that_does_not_matter_has_a_track(self):
        entry = comparison_entry(formula_of("a + b = a + 2"), "ab", (0, 1), -2, -1, 2)
        self.check_right(entry)
        self.check_accepting(entry)
        short = comparison_entry(formula_of("a + b = a + 2"), "b", (1,), -2, -1, 2)
        self.check_wrong(short)

    def test_without_variables(self):
        for text, accepting in (("3 = 3", (0,)), ("3 < 3", ()), ("2 < 3", (0,)), ("3 < 2", ()), ("2 = 3", ())):
            entry = ("compare", (), (), formula_of(text), ((0,),), accepting, (0,))
            self.check_accepting(entry)


class Pairs(Rule):

    def test_look_both(self):
        for text in ("T[a] = T[b]", "T[a] = S[b]", "S[b] = T[a]", "S[a] = T[b]", "T[a] = S[a]", "S[x] = S[x]"):
            log = log_of(formula_of(text), 2, WORLD)
            entry = log[0]
            self.assertEqual(entry[RULE], "look both")
            self.check_accepting(entry)
            self.check_targets(entry)
            self.check_doubled(entry)
            self.check_shown(entry)
            for state, (one, other) in enumerate(entry[SHOWN]):
                for pair in ((one, other, 0), (one,), (one, -1), (9, other), [one, other], (bool(one), other), one,
                             (one, other + 4), (one - 4, other)):
                    self.check_wrong(changed(entry, SHOWN, changed(entry[SHOWN], state, pair)))
            self.check_wrong(TRUE, changed(entry, PARTS, (0,)))
            for world in ({}, {"T": WORLD["T"]}, {"S": WORLD["S"]}, {"T": WORLD["P"], "S": WORLD["P"]}):
                if not all(name in world for name in text if name in "TS"):
                    self.check_wrong(entry, world=world)

    def test_look_both_by_hand(self):
        entry = changed(
            changed(T_SAME, ROWS, ((0, 1, 2, 3), (1, 0, 3, 2), (2, 3, 0, 1), (3, 2, 1, 0))), SHOWN,
            ((0, 0), (0, 1), (1, 0), (1, 1)))
        entry = changed(entry, ACCEPTING, (0, 3))
        self.check_right(entry)
        for text in ("T[b] = T[a]", "T[a] = S[b]", "S[a] = T[b]", "T[a] = T[a]", "T[a] = T[c]", "T[a + 1] = T[b]",
                     "T[a] = T[b + b]", "T[a] = T[0]", "T[0] = T[b]", "T[a] = @1"):
            right = text == "T[b] = T[a]"
            other = changed(entry, FORMULA, formula_of(text))
            if right:
                # The pairs are those of the first and of the second sequence; here they are turned round.
                self.check_wrong(other)
                self.check_right(changed(other, SHOWN, ((0, 0), (1, 0), (0, 1), (1, 1))))
            else:
                self.check_wrong(other)

    def test_look_both_of_another_base(self):
        entry = log_of(formula_of("P[a] = P[b]"), 3, WORLD)[0]
        self.check_right(entry, base=3)
        self.check_wrong(entry, base=3, world={"P": WORLD["T"]})
        one = log_of(formula_of("P[a] = Q[a]"), 3, {"P": WORLD["P"], "Q": WORLD["P"]})[0]
        self.check_right(one, base=3, world={"P": WORLD["P"], "Q": WORLD["P"]})
        for world in ({"P": WORLD["P"], "Q": powers(2)}, {"P": powers(4), "Q": WORLD["P"]}, {"P": WORLD["P"]},
                      {"Q": WORLD["P"]}):
            self.check_wrong(one, base=3, world=world)

    def test_and_or(self):
        for text in ("(T[a] = @1 & T[b] = @1)", "(T[a] = @1 | T[b] = @1)", "(T[a] = @1 & S[a] = @1)",
                     "(S[b] = @0 | a < b)", "(true & T[a] = @1)", "(T[a] = @0 | true)", "(0 = 1 | true)",
                     "(S[a] = T[c] & T[b] = @0)"):
            formula = formula_of(text)
            log = log_of(formula, 2, WORLD)
            at = [entry[RULE] for entry in log].index(formula[0])
            log = log[:at + 1]
            self.check_accepting(*log)
            self.check_targets(*log)
            self.check_doubled(*log)
            self.check_shown(*log)

    def test_and_or_by_hand(self):
        rows = ((0, 1, 2, 3), (1, 0, 3, 2), (2, 3, 0, 1), (3, 2, 1, 0))
        shown = ((0, 0), (0, 1), (1, 0), (1, 1))
        for rule, accepting in (("and", (3,)), ("or", (1, 2, 3))):
            formula = (rule, T_ONE[FORMULA], T_ONE_B[FORMULA])
            entry = (rule, (0, 1), ("a", "b"), formula, rows, accepting, shown)
            self.check_accepting(T_ONE, T_ONE_B, entry)
            for parts in ((1, 0), (0, 0), (1, 1), (0,), (0, 1, 1), ()):
                self.check_wrong(T_ONE, T_ONE_B, changed(entry, PARTS, parts))
            for other in ((rule, formula[2], formula[1]), (rule, formula[1], formula[1]), formula[1],
                          ({"and": "or", "or": "and"}[rule], *formula[1:]), ("not", formula), (rule, formula[1])):
                self.check_wrong(T_ONE, T_ONE_B, changed(entry, FORMULA, other))
            self.check_wrong(T_ONE, T_ONE_B, changed(entry, RULE, {"and": "or", "or": "and"}[rule]))
            for variables in (("b", "a"), ("a", "c"), ("a",), ("a", "b", "c")):
                self.check_wrong(T_ONE, T_ONE_B, changed(entry, VARIABLES, variables))
            for state in range(4):
                for pair in ((0, 2), (2, 0), (-1, 0), (0, -1), (True, 0), (0, False), [0, 0], (0,), (0, 0, 0), None):
                    self.check_wrong(T_ONE, T_ONE_B, changed(entry, SHOWN, changed(shown, state, pair)))

    def test_and_of_one_part_twice(self):
        formula = ("and", T_ONE[FORMULA], T_ONE[FORMULA])
        entry = ("and", (0, 0), ("a",), formula, T_ONE[ROWS], T_ONE[ACCEPTING], ((0, 0), (1, 1)))
        self.check_accepting(T_ONE, entry)
        self.check_wrong(T_ONE, changed(entry, SHOWN, ((0, 0), (1, 0))))

    def test_pairs_begin_with_the_first_states(self):
        # From (1, 1) on, everything would be the same but for what is accepted.
        formula = ("and", T_ONE[FORMULA], T_ONE[FORMULA])
        entry = ("and", (0, 0), ("a",), formula, T_ONE[ROWS], (0,), ((1, 1), (0, 0)))
        self.check_wrong(T_ONE, entry)


class Some(Rule):

    def some(self, text):
        """The log of a formula up to the first "some", which is its last entry."""
        log = log_of(formula_of(text), 2, WORLD)
        at = [entry[RULE] for entry in log].index("some")
        return log[:at + 1]

    def test_sets(self):
        for text in ("some x (a = x + x)", "some x (x = a + a + 1)", "some a (a = x + x)", "some b ((b < a & T[b] = @1))",
                     "some x (T[x] = S[a])", "some x (x = 9)"):
            log = self.some(text)
            self.check_accepting(*log)
            self.check_targets(*log)
            self.check_doubled(*log)
            entry = log[-1]
            size = len(log[entry[PARTS][0]][ROWS])
            for state, states in enumerate(entry[SHOWN]):
                # Too small, too great, not ascending, empty, or with what is no state.
                others = [states[:at] + states[at + 1:] for at in range(len(states))]
                others.extend(tuple(sorted(states + (more,))) for more in range(size) if more not in states)
                others.extend([(), states + states[-1:], states + (size,), (-1,) + states, list(states), None, states[0],
                               tuple(bool(one) if one < 2 else str(one) for one in states)])
                if len(states) > 1:
                    others.append(states[::-1])
                for other in others:
                    self.check_wrong(*log[:-1], changed(entry, SHOWN, changed(entry[SHOWN], state, other)))

    def test_set_of_the_first_state(self):
        # The number on the track may have more digits than all others: the empty word, and words of one digit, are
        # not enough.
        log = self.some("some x (x = 9)")
        entry = log[-1]
        self.assertGreater(len(entry[SHOWN][0]), 4)
        part = log[entry[PARTS][0]]
        reached = (0,)
        while reached != entry[SHOWN][0]:
            after = tuple(sorted(set(reached) | {part[ROWS][state][digit] for state in reached for digit in (0, 1)}))
            self.check_wrong(*log[:-1], changed(entry, SHOWN, changed(entry[SHOWN], 0, reached)))
            reached = after

    def test_another_first_set(self):
        # All sets that follow on another one are right, but for the first one.
        for text in ("some x (x = 9)", "some x (a = x + x)", "some x ((x < 3 & a < x))", "some b ((b < a & T[b] = @1))"):
            log = self.some(text)
            part = log[log[-1][PARTS][0]]
            right = sets_entry(log[-1], part, log[-1][SHOWN][0])
            self.check_right(*log[:-1], right)
            for start in ((0,), tuple(range(len(part[ROWS]))), (len(part[ROWS]) - 1,)):
                if start != log[-1][SHOWN][0]:
                    self.check_wrong(*log[:-1], sets_entry(log[-1], part, start))

    def test_formula_and_variables(self):
        log = self.some("some x (a = x + x)")
        entry = log[-1]
        for text in ("some a (a = x + x)", "some y (a = x + x)", "all x (a = x + x)", "some x (x = a + a)", "a = x + x",
                     "some x (some x (a = x + x))"):
            self.check_wrong(*log[:-1], changed(entry, FORMULA, formula_of(text)))
        inner = entry[FORMULA][2]
        for formula in (("some", "x"), ("some", "x", inner, inner), ("some", "X", inner), ("some", ("x",), inner),
                        ["some", "x", inner], ("some", None, inner), ("some", "", inner)):
            self.check_wrong(*log[:-1], changed(entry, FORMULA, formula))
        self.check_wrong(*log[:-1], changed(entry, VARIABLES, ("x",)))
        self.check_wrong(*log[:-1], changed(entry, VARIABLES, ("b",)))
        self.check_wrong(*log[:-1], changed(entry, PARTS, entry[PARTS] * 2))
        self.check_wrong(*log[:-1], changed(entry, PARTS, ()))

    def test_a_variable_that_is_not_among_those_of_the_part(self):
        log = self.some("some x (T[a] = @1)")
        entry = log[-1]
        self.check_right(*log)
        self.check_accepting(*log)
        for other in (changed(entry, ROWS, ((0, 1), (0, 1))), changed(entry, SHOWN, ((0,), (1,))),
                      changed(entry, VARIABLES, ()), changed(entry, VARIABLES, ("a", "x")),
                      changed(entry, ROWS, entry[ROWS] + ((0, 1),))):
            self.check_wrong(*log[:-1], other)

    def test_a_variable_that_is_among_them(self):
        # The automaton of the part is not that of the "some".
        log = self.some("some a (T[a] = @1)")
        part = log[-2]
        for shown in ((), ((0,), (1,))):
            for variables in ((), ("a",)):
                entry = ("some", (0,), variables, log[-1][FORMULA], part[ROWS], part[ACCEPTING], shown)
                self.check_wrong(*log[:-1], entry)


class Least(Rule):

    # State 1 is alike to 0, state 3 is not reached and alike to 2.
    part = (
        "look", (), ("a",), ("is", "U", A, 1), ((1, 2), (0, 2), (2, 0), (2, 1)), (2, 3), ())
    world = {"U": Sequence(2, part[4], (0, 0, 1, 1))}
    entry = ("least", (0,), ("a",), part[3], ((0, 1), (1, 0)), (1,), ((0, 0, 1, 1), ((),)))

    def check_right(self, *entries, base=2, world=None):
        super().check_right(self.part, *entries, base=base, world=self.world)

    def check_wrong(self, *entries, base=2, world=None):
        super().check_wrong(self.part, *entries, base=base, world=self.world)

    def with_fold(self, fold):
        return changed(self.entry, SHOWN, (fold, self.entry[SHOWN][1]))

    def with_tests(self, tests):
        return changed(self.entry, SHOWN, (self.entry[SHOWN][0], tests))

    def test_right_ones(self):
        self.check_right(self.entry)
        self.check_right(self.with_fold((0, 0, 1, None)))
        self.check_accepting(self.entry)

    def test_folds(self):
        for fold in (
                (0, 0, 1, 0), (0, 1, 1, 1), (1, 1, 0, 0), (0, None, 1, 1), (None, 0, 1, 1), (0, 0, None, None),
                (0, 0, 1), (0, 0, 1, 1, 1), (0, 0, 2, 2), (0, 0, -1, -1), (False, 0, 1, 1), (0, 0, True, 1), [0, 0, 1, 1],
                (0, 0, 1, "1"), (0, 0, 1, 1.0), (0, 0, 1, False), (), None, 0, (0, 0, 0, 0), (None,) * 4, (1, 1, 1, 1)):
            self.check_wrong(self.with_fold(fold))

    def test_a_fold_that_joins_too_much(self):
        single = changed(changed(self.entry, ROWS, ((0, 0),)), SHOWN, ((0, 0, 0, 0), ()))
        for accepting in ((), (0,)):
            self.check_wrong(changed(single, ACCEPTING, accepting))

    def test_a_fold_that_leaves_a_state_out(self):
        # A state here to which none is folded.
        more = changed(changed(self.entry, ROWS, ((0, 1), (1, 0), (2, 2))), SHOWN, ((0, 0, 1, 1), ((), ((1,),))))
        self.check_wrong(more)
        more = changed(more, ROWS, ((0, 1), (1, 0), (1, 1)))
        self.check_wrong(changed(more, SHOWN, ((0, 0, 1, 1), ((), ((0,),), ((1,),)))))

    def test_a_fold_that_is_not_least(self):
        # Each state is folded to itself: letters lead on rightly, but 0 and 1 are not parted.
        whole = changed(changed(self.entry, ROWS, self.part[ROWS]), ACCEPTING, self.part[ACCEPTING])
        for tests in ((), ((),), ((), ((0,),), ((1,),), ((0,), (1,)), ((1,), (1,)))):
            self.check_wrong(changed(whole, SHOWN, ((0, 1, 2, 3), tests)))
        # Without a state that is not reached there are three states.
        three = changed(changed(self.entry, ROWS, self.part[ROWS][:3]), ACCEPTING, (2,))
        self.check_wrong(changed(three, SHOWN, ((0, 1, 2, None), ((), ((0,),), ((1,),)))))

    def test_rows(self):
        for rows in (((0, 1), (1, 1)), ((0, 0), (1, 0)), ((1, 1), (1, 0)), ((0, 1), (0, 0)), ((0, 1), (1, 0), (0, 1))):
            self.check_wrong(changed(self.entry, ROWS, rows))

    def test_tests(self):
        for tests in (((),), (((0,),),), (((1,),),), (((0,), (1,), (1,)),), ((), ()), (((1,),), (), ((0,),))):
            self.check_right(self.with_tests(tests))
        for tests in (
                (), [()], None, ([],), ((), []), (((2,),),), (((-1,),),), (((0, 0),),), ((0,),), ((), 0), (((True,),),),
                ((), ((),)), ((), ([0],)), ("",), ((), "0"), ({},), (((0.0,),),), ((), ((0,), 1)), ((), ((0,), ("1",)))):
            self.check_wrong(self.with_tests(tests))

    def test_tests_that_part_too_little(self):
        # The residues by 5: words of which fewer part them are not enough.
        formula = ("is", "R", A, 1)
        rows = tuple(tuple((2 * state + digit) % 5 for digit in range(2)) for state in range(5))
        world = {"R": Sequence(2, rows, (1, 0, 0, 0, 0))}
        part = ("look", (), ("a",), formula, rows, (0,), ())
        fold = tuple(range(5))

        def told(tests):
            entry = ("least", (0,), ("a",), formula, rows, (0,), (fold, tests))
            return fault((part, entry), formula, 2, world)
        words = ((), ((1,),), ((1,), (1,)), ((0,), (1,)))
        residues = {word: tuple((state * 2 ** len(word) + number(word)) % 5 == 0 for state in range(5)) for word in words}
        for chosen in subsets(words):
            parted = len(set(zip(*[residues[word] for word in chosen]))) == 5 if chosen else False
            self.assertEqual(told(chosen), None if parted else 1)
            self.assertEqual(told(chosen[::-1]), None if parted else 1)
        self.assertEqual(told(words[:1] * 9), 1)
        # Words behind whose first letters stand words that are no tests.
        one, zero = (1,), (0,)
        self.assertIsNone(told(((), (one, zero), (one, one, zero), (zero, one, zero))))
        self.assertIsNone(told(((), (one, zero, zero), (one, one, zero), (zero, one))))
        self.assertEqual(told(((), (one, zero), (zero,) * 4 + (one, zero), (zero, one, zero))), 1)

    def test_formula_variables_and_parts(self):
        self.check_wrong(changed(self.entry, FORMULA, ("is", "U", A, 0)))
        self.check_wrong(changed(self.entry, FORMULA, ("is", "T", A, 1)))
        self.check_wrong(changed(self.entry, FORMULA, ("not", self.part[FORMULA])))
        self.check_wrong(changed(self.entry, VARIABLES, ("b",)))
        self.check_wrong(changed(self.entry, PARTS, ()))
        self.check_wrong(changed(self.entry, PARTS, (0, 0)))
        self.check_wrong(changed(self.entry, PARTS, (1,)))
        for shown in ((), ((0, 0, 1, 1),), ((0, 0, 1, 1), ((),), ()), [(0, 0, 1, 1), ((),)], None):
            self.check_wrong(changed(self.entry, SHOWN, shown))

    def test_of_another_base(self):
        for base in (3, 4):
            formula = formula_of("a = b + 2")
            log = log_of(formula, base, {})
            self.assertEqual(log[-1][RULE], "least")
            self.assertIsNone(fault(log, formula, base, {}))
            fold, tests = log[-1][SHOWN]
            for digit in (base, -1):
                wrong = changed(log[-1], SHOWN, (fold, tests + (((digit, 0),),)))
                self.assertEqual(fault(changed(log, len(log) - 1, wrong), formula, base, {}), len(log) - 1)


def sets_entry(entry, part, start):
    """An entry "some" whose sets follow on a given first one."""
    place = part[VARIABLES].index(entry[FORMULA][1])
    numbers = {letter: at for at, letter in enumerate(letters(2, len(part[VARIABLES])))}
    found = [start]
    rows = []
    for states in found:
        row = []
        for letter in letters(2, len(entry[VARIABLES])):
            wide = [numbers[letter[:place] + (digit,) + letter[place:]] for digit in (0, 1)]
            target = tuple(sorted({part[ROWS][state][at] for state in states for at in wide}))
            if target not in found:
                found.append(target)
            row.append(found.index(target))
        rows.append(tuple(row))
    accepting = tuple(at for at, states in enumerate(found) if set(states) & set(part[ACCEPTING]))
    return changed(changed(changed(entry, ROWS, tuple(rows)), ACCEPTING, accepting), SHOWN, tuple(found))


def number(word):
    """The number that a word of one track in the base 2 writes."""
    found = 0
    for (digit,) in word:
        found = 2 * found + digit
    return found


def subsets(items):
    """All tuples of some of the items."""
    found = [()]
    for item in items:
        found.extend([one + (item,) for one in found])
    return found


class NotReached(Rule):
    """Entries with one state more, to which no letter leads: what is shown for it must be right, too."""

    def with_more(self, entry, row, told, accepts=False):
        """An entry with one state more."""
        accepting = entry[ACCEPTING] + ((len(entry[ROWS]),) if accepts else ())
        return changed(changed(changed(entry, ROWS, entry[ROWS] + (row,)), ACCEPTING, accepting), SHOWN,
                       entry[SHOWN] + (told,))

    def test_values(self):
        entry = comparison_entry(formula_of("a < b"), "ab", (1, -1), 0, -1, 1)
        over, under = entry[SHOWN].index("over"), entry[SHOWN].index("under")
        self.check_right(self.with_more(entry, (over,) * 4, 1000))
        self.check_right(self.with_more(entry, (under,) * 4, -1000, True))
        self.check_right(self.with_more(entry, (over,) * 4, "over"))
        self.check_wrong(self.with_more(entry, (over,) * 4, 1000, True))
        self.check_wrong(self.with_more(entry, (over,) * 4, -1000))
        self.check_wrong(self.with_more(entry, (over,) * 4, "under", True))
        for told in (None, True, "more", (), 5.0, (5,), []):
            for accepts in (False, True):
                self.check_wrong(self.with_more(entry, (over,) * 4, told, accepts))

    def test_pairs(self):
        one_sequence = log_of(formula_of("T[a] = T[b]"), 2, WORLD)[:1]
        joined = log_of(formula_of("(T[a] = @1 & T[b] = @1)"), 2, WORLD)[:3]
        for log in (one_sequence, joined):
            *before, entry = log
            row = entry[ROWS][0]
            self.check_right(*before, self.with_more(entry, row, (0, 0), 0 in entry[ACCEPTING]))
            for told in (None, (), (0,), (0, 0, 0), [0, 0], (2, 0), (0, 2), (-2, 0), (0, -2), (False, 0), (0, False), 0, "ab",
                         (0, None), ((0,), 0)):
                for accepts in (False, True):
                    self.check_wrong(*before, self.with_more(entry, row, told, accepts))

    def test_sets(self):
        log = log_of(formula_of("some x (a = x + x)"), 2, WORLD)
        at = [entry[RULE] for entry in log].index("some")
        *before, entry = log[:at + 1]
        size = len(log[entry[PARTS][0]][ROWS])
        last = len(entry[ROWS])
        self.check_right(*before, self.with_more(entry, entry[ROWS][0], entry[SHOWN][0], 0 in entry[ACCEPTING]))
        # From an empty set, all letters lead to itself.
        for told in ((), None, [], (0, 0), (size,), (-1,), (False,), 0, (None,), tuple(range(size))[::-1]):
            for row in ((last, last), entry[ROWS][0]):
                for accepts in (False, True):
                    self.check_wrong(*before, self.with_more(entry, row, told, accepts))


class Aliases(Rule):

    def test_numbers_that_count_from_the_end(self):
        for formula, log in logs():
            for at, entry in enumerate(log):
                size = len(entry[ROWS])
                for state, row in enumerate(entry[ROWS]):
                    for place, target in enumerate(row):
                        for other in (target - size, size, size + target):
                            rows = changed(entry[ROWS], state, changed(row, place, other))
                            self.check_wrong(*log[:at], changed(entry, ROWS, rows))
                for place, state in enumerate(entry[ACCEPTING]):
                    for other in (state - size, size):
                        self.check_wrong(*log[:at], changed(entry, ACCEPTING, changed(entry[ACCEPTING], place, other)))

    def test_no_states(self):
        for formula, log in logs():
            for at, entry in enumerate(log):
                none = changed(changed(entry, ROWS, ()), ACCEPTING, ())
                for shown in ((), entry[SHOWN], ((), ())):
                    self.check_wrong(*log[:at], changed(none, SHOWN, shown))

    def test_six_variables(self):
        formula = formula_of("a + b + c < d + e + f")
        self.check_wrong(comparison_entry(formula, "abcdef", (1, 1, 1, -1, -1, -1), 0, -3, 3))
        formula = formula_of("a + b + c < d + e")
        self.check_right(comparison_entry(formula, "abcde", (1, 1, 1, -1, -1), 0, -3, 2))

    def test_a_fold_that_begins_elsewhere(self):
        formula = T_ONE[FORMULA]
        entry = ("least", (0,), ("a",), formula, ((0, 1), (1, 0)), (0,), ((1, 0), ((),)))
        self.check_wrong(T_ONE, entry)
        self.check_right(T_ONE, changed(changed(entry, ACCEPTING, (1,)), SHOWN, ((0, 1), ((),))))


class Logs(Rule):

    def test_accepting_of_each_entry(self):
        for formula, log in logs():
            for at in range(len(log)):
                self.check_accepting(*log[:at + 1])

    def test_rows_of_each_entry(self):
        # For these rules each row is told exactly.
        for formula, log in logs():
            for at, entry in enumerate(log):
                if entry[RULE] in ("look", "not", "spell", "least"):
                    for state, row in enumerate(entry[ROWS]):
                        for place, target in enumerate(row):
                            other = (target + 1) % len(entry[ROWS])
                            if other != target:
                                rows = changed(entry[ROWS], state, changed(row, place, other))
                                self.check_wrong(*log[:at], changed(entry, ROWS, rows))


if __name__ == "__main__":
    unittest.main()
