"""6.2 and 6.6: the form of entries, and what the checker returns."""

import unittest

from automatics.check import fault
from automatics.formulatext import formula_of
from automatics.knownseq import rudin_shapiro, thue_morse
from automatics.log import log_of
from tests.formulas import plain_term
from tests.helpers import NO_INTEGERS
from tests.logs import (
    ACCEPTING, FORMULA, PARTS, ROWS, RULE, SHOWN, VARIABLES, WORLD, changed, changes_within, logs, without_item)

TRUE = ("true", (), (), ("true",), ((0,),), (0,), ())
LOOK = ("look", (), ("a",), ("is", "T", plain_term("a"), 1), ((0, 1), (1, 0)), (1,), ())
NOT_LOOK = ("not", (1,), ("a",), ("not", LOOK[FORMULA]), ((0, 1), (1, 0)), (0,), ())

ODD_VALUES = NO_INTEGERS + (
    0, 1, 3, "true", "a", ("true",), (("true",), 0), (0, 1), ((0,),), (None,), (((),),), frozenset(), {"a": ("a",)},
    bytearray(b"x"), range(3), float("nan"), 2 ** 14000, Exception, ("a", "b"), (True,), ((False,),), [["x"]], 1j)


def deep(inner, times, kind):
    """A value nested so many times."""
    for _ in range(times):
        inner = {
            "tuple": (inner,), "list": [inner], "dict": {"k": inner}, "not": ("not", inner),
            "pair": (inner, 0), "entry": ("not", (0,), (), inner, ((0,),), (), ()),
            "and": ("and", inner, ("true",)), "some": ("some", "x", inner), "all": ("all", "x", inner)}[kind]
    return inner


DEEP_VALUES = [
    deep(inner, times, kind) for inner in ((), ("true",), 0, None) for times in (1, 90, 100, 101, 119)
    for kind in ("tuple", "list", "dict", "not", "pair", "entry", "and", "some", "all")]


class Whole(unittest.TestCase):

    def test_none(self):
        for formula, log in logs():
            self.assertIsNone(fault(log, formula, 2, WORLD))
        self.assertIsNone(fault((TRUE,), ("true",), 3, {}))
        self.assertIsNone(fault((TRUE, LOOK, NOT_LOOK), NOT_LOOK[FORMULA], 2, WORLD))

    def test_no_tuple(self):
        for formula, log in logs():
            self.assertEqual(fault(list(log), formula, 2, WORLD), -1)
        for value in ODD_VALUES:
            if not isinstance(value, tuple):
                self.assertEqual(fault(value, ("true",), 2, WORLD), -1)

    def test_no_entries(self):
        self.assertEqual(fault((), ("true",), 2, WORLD), 0)

    def test_another_claim(self):
        for formula, log in logs():
            for other in (("not", formula), ("and", formula, formula), formula_of("T[z] = @1"), formula_of("a = b + 77")):
                self.assertEqual(fault(log, other, 2, WORLD), len(log))
            if len(log) > 1:
                self.assertEqual(fault(log[:-1] + (TRUE,), formula, 2, WORLD), len(log) if formula != ("true",) else None)
        self.assertEqual(fault((TRUE, LOOK, NOT_LOOK), LOOK[FORMULA], 2, WORLD), 3)
        self.assertEqual(fault((LOOK, TRUE), LOOK[FORMULA], 2, WORLD), 2)

    def test_the_free_variables_are_claimed(self):
        # An entry for all variables of a part would be right, but the last one claims the formula with others.
        log = (LOOK, ("some", (0,), (), ("some", "a", LOOK[FORMULA]), ((0,),), (0,), ((0, 1),)))
        self.assertIsNone(fault(log, log[1][FORMULA], 2, WORLD))
        self.assertEqual(fault(log, ("some", "a", formula_of("T[a] = @0")), 2, WORLD), 2)

    def test_the_first_one_that_is_not_right(self):
        wrong = changed(LOOK, ACCEPTING, (0,))
        for log, at in (
                ((wrong,), 0), ((TRUE, wrong), 1), ((TRUE, wrong, wrong), 1), ((TRUE, LOOK, wrong, TRUE), 2),
                ((TRUE, wrong, NOT_LOOK), 1), ((wrong, 5, None), 0), ((TRUE, 5, wrong), 1)):
            self.assertEqual(fault(log, NOT_LOOK[FORMULA], 2, WORLD), at)

    def test_each_entry_of_each_log(self):
        for formula, log in logs():
            for at in range(len(log)):
                for value in (None, (), log[at][:6], log[at] + ((),), list(log[at])):
                    self.assertEqual(fault(changed(log, at, value), formula, 2, WORLD), at)

    def test_another_base_or_sequence(self):
        formula = formula_of("T[a + 1] = @1")
        log = log_of(formula, 2, WORLD)
        self.assertEqual(fault(log, formula, 3, WORLD), 0)
        at = [entry[RULE] for entry in log].index("look")
        for world in ({}, {"S": thue_morse()}, {"T": WORLD["P"]}, {"T": rudin_shapiro()}):
            self.assertEqual(fault(log, formula, 2, world), at)

    def test_arguments_are_not_changed(self):
        formula, log = logs()[2]
        copied = eval(repr(log))
        fault(log, formula, 2, WORLD)
        self.assertEqual(log, copied)


class Form(unittest.TestCase):

    def check_wrong(self, entry, before=(TRUE, LOOK)):
        log = before + (entry,)
        self.assertEqual(fault(log, entry[FORMULA] if len(entry) > FORMULA else None, 2, WORLD), len(before))

    def test_number_of_items(self):
        for entry in (TRUE, LOOK, NOT_LOOK):
            for at in range(7):
                self.check_wrong(without_item(entry, at))
                self.check_wrong(entry[:at] + ((),) + entry[at:])
            self.check_wrong(entry * 2)

    def test_rules(self):
        for entry in (TRUE, LOOK, NOT_LOOK):
            for rule in ("", "True", "nott", "all", "lookboth", "look_both", "is", "=", "same", b"true", None, 0, ("true",),
                         ["true"], {"true"}):
                self.check_wrong(changed(entry, RULE, rule))
        rules = ("true", "compare", "look", "look both", "not", "and", "or", "some", "spell", "least")
        for entry in (TRUE, LOOK, NOT_LOOK):
            for rule in rules:
                if rule != entry[RULE]:
                    self.check_wrong(changed(entry, RULE, rule))

    def test_parts(self):
        for parts in ((), (0,), (2,), (3,), (-1,), (-2,), (True,), (1, 1), (1, 0), (1.0,), ("1",), [1], 1, None, (None,),
                      ((1,),), {1}, {1: 1}):
            self.check_wrong(changed(NOT_LOOK, PARTS, parts))
        for entry in (TRUE, LOOK):
            for parts in ((0,), (1,), (0, 1), [], None, 0, ""):
                self.check_wrong(changed(entry, PARTS, parts))

    def test_true_is_no_number_of_an_entry(self):
        # Entry 1 is the part, so 1 would be right.
        self.assertIsNone(fault((TRUE, LOOK, NOT_LOOK), NOT_LOOK[FORMULA], 2, WORLD))
        self.check_wrong(changed(NOT_LOOK, PARTS, (True,)))

    def test_variables(self):
        for variables in ((), ("b",), ("a", "a"), ("a", "b"), ["a"], "a", ("A",), ("ab",), ("",), (1,), (None,), None,
                          (("a",),), (b"a",)):
            self.check_wrong(changed(LOOK, VARIABLES, variables))
            self.check_wrong(changed(NOT_LOOK, VARIABLES, variables))
        for variables in (("a",), [], None, "", 0, ((),)):
            self.check_wrong(changed(TRUE, VARIABLES, variables))

    def test_order_and_number_of_variables(self):
        for text in ("a < b", "a + b < c + d + e"):
            formula = formula_of(text)
            right = log_of(formula, 2, {})[0]
            self.assertIn(fault((right,), formula, 2, {}), (None, 1))
            variables = right[VARIABLES]
            for others in (variables[::-1], variables[1:] + variables[:1], variables[:-1], variables + ("z",),
                           ("a",) + variables[:-1], list(variables)):
                self.check_wrong(changed(right, VARIABLES, others))
        # Six variables: an automaton has at most 5 tracks.
        formula = formula_of("a + b + c < d + e + f")
        for rows in (((0,) * 64,), ((0,) * 32,)):
            self.check_wrong(("compare", (), tuple("abcdef"), formula, rows, (), (0,)))
            self.check_wrong(("compare", (), tuple("abcde"), formula, rows, (), (0,)))

    def test_formulas(self):
        for formula in (
                ("is", "T", plain_term("a"), 0), ("is", "S", plain_term("a"), 1), ("is", "T", plain_term("b"), 1),
                ("is", "T", plain_term("a", 1), 1), ("is", "T", plain_term("aa"), 1), ("is", "T", plain_term(""), 1),
                ("is", "T", plain_term("a"), True), ("is", "T", plain_term("a"), 1.0), ("is", "T", plain_term("a"), 10),
                ("is", "T", ("sum", ["a"], 0), 1), ("is", "T", ("sum", "a", 0), 1), ("is", "T", ("sum", ("a",), False), 1),
                ["is", "T", plain_term("a"), 1], ("is", "T", plain_term("a")), ("is", "T", plain_term("a"), 1, 1),
                ("same", "T", plain_term("a"), "T", plain_term("a")), ("true",), (), None, "T[a] = @1", ("is",)):
            self.check_wrong(changed(LOOK, FORMULA, formula))
            self.check_wrong(changed(NOT_LOOK, FORMULA, ("not", formula)))
            self.check_wrong(changed(NOT_LOOK, FORMULA, formula))
        for formula in (("true", ()), ["true"], "true", (True,), (), ("false",), ("not", ("true",)), None):
            self.check_wrong(changed(TRUE, FORMULA, formula))

    def test_rows(self):
        for rows in (
                (), ((0,), (1,)), ((0, 1),), ((0, 1), (1, 2)), ((0, 1), (1, -1)), ((0, 1), (1, 0), (0, 0)),
                ((False, True), (True, False)), ((0, 1), (1, 0.0)), [(0, 1), (1, 0)], ([0, 1], [1, 0]), ((0, 1), [1, 0]),
                ((0, 1, 0), (1, 0, 0)), ((0, 1), None), ((0, 1), (1, None)), ((0, 1), "10"), None, 0, ((1, 0), (0, 1))):
            self.check_wrong(changed(LOOK, ROWS, rows))
            self.check_wrong(changed(NOT_LOOK, ROWS, rows))
        for rows in ((), ((),), ((1,),), ((0,), (0,)), ((False,),), [(0,)], ([0],), ((0, 0),), None, (0,)):
            self.check_wrong(changed(TRUE, ROWS, rows))

    def test_accepting(self):
        for accepting in ((), (0,), (0, 1), (1, 1), (True,), (2,), (-1,), [1], {1}, None, 1, (1.0,), ((1,),)):
            self.check_wrong(changed(LOOK, ACCEPTING, accepting))
        for accepting in ((), (1,), (0, 1), (1, 0), (False,), [0], None, 0, (0.0,), (0, 0)):
            self.check_wrong(changed(NOT_LOOK, ACCEPTING, accepting))
            self.check_wrong(changed(TRUE, ACCEPTING, accepting))

    def test_shown(self):
        for shown in (None, [], 0, False, "", ((),), (0,), (None,), {}):
            for entry in (TRUE, LOOK, NOT_LOOK):
                self.check_wrong(changed(entry, SHOWN, shown))

    def test_many_states(self):
        # "All of them are 0": 5000 states are an automaton, 5001 are not.
        formula = formula_of("0 = 0")
        for count, place in ((5000, None), (5001, 0)):
            entry = ("compare", (), (), formula, ((0,),) * count, tuple(range(count)), (0,) * count)
            self.assertEqual(fault((entry,), formula, 2, {}), place)

    def test_depth(self):
        # Formulas are nested at most 100 deep.
        log = [TRUE]
        for at in range(101):
            log.append(("not", (at,), (), ("not", log[-1][FORMULA]), ((0,),), () if at % 2 == 0 else (0,), ()))
        self.assertIsNone(fault(tuple(log[:-1]), log[-2][FORMULA], 2, {}))
        self.assertEqual(fault(tuple(log), log[-1][FORMULA], 2, {}), 101)


class Anything(unittest.TestCase):

    def test_lists_and_other_numbers_within_entries(self):
        """Each tuple at each place as a list, and each 0 and 1 as False and True or as another kind of number."""
        def replaced(value):
            if isinstance(value, tuple):
                return [list(value)]
            if isinstance(value, int):
                return [float(value), str(value), None] + ([bool(value)] if value in (0, 1) else [])
            return []
        for formula, log in logs()[:6]:
            for at, entry in enumerate(log):
                for other in changes_within(entry, replaced):
                    # In a fold, None may stand for a state that is not reached; here all are reached.
                    self.assertEqual(fault(changed(log, at, other), formula, 2, WORLD), at, (entry, other))

    def test_odd_values(self):
        # For each rule an entry, and for "least" and "some" one with more states.
        self.places = {}
        for _, log in logs():
            for at, entry in enumerate(log):
                self.places.setdefault(entry[RULE], (log, at))
                self.places.setdefault((entry[RULE], len(entry[ROWS]) > 2, len(entry[SHOWN]) > 0), (log, at))
        self.assertGreater(len(self.places), 20)
        for value in list(ODD_VALUES) + DEEP_VALUES:
            self.check_places(value)

    def check_places(self, value):
        self.assertEqual(fault(value, ("true",), 2, WORLD), 0 if isinstance(value, tuple) and value else
                         -1 if not isinstance(value, tuple) else 0)
        self.assertEqual(fault((value,), ("true",), 2, WORLD), 0)
        self.assertEqual(fault((TRUE, value), ("true",), 2, WORLD), 1)
        for log, at in self.places.values():
            for item in range(7):
                entry = changed(log[at], item, value)
                found = fault(changed(log, at, entry), ("true",), 2, WORLD)
                # Some values stand there anyway; then the log is as it was.
                expected = len(log) if log[-1][FORMULA] != ("true",) else None
                self.assertEqual(found, expected if repr(entry) == repr(log[at]) else at)

    def test_values_within_what_is_shown(self):
        for _, log in logs():
            for at, entry in enumerate(log):
                for place in range(len(entry[SHOWN])):
                    for value in (None, 5001, -3, "x", [], (), ((),), (0, 0, 0), True, deep((), 110, "tuple")):
                        # The empty word may be one test more of a "least".
                        if entry[SHOWN][place] != value and (entry[RULE] != "least" or value != ((),)):
                            other = changed(entry, SHOWN, changed(entry[SHOWN], place, value))
                            self.assertEqual(fault(changed(log, at, other), ("true",), 2, WORLD), at)

    def test_great_formulas_with_equal_parts(self):
        # Written out, this would be far too long.
        great = ("true",)
        for _ in range(99):
            great = ("and", great, great)
        for entry in (changed(TRUE, FORMULA, great), changed(NOT_LOOK, FORMULA, ("not", great)),
                      changed(NOT_LOOK, FORMULA, great), changed(LOOK, FORMULA, great),
                      ("and", (0, 0), (), great, ((0,),), (0,), ((0, 0),)),
                      ("spell", (0,), (), ("all", "x", great), ((0,),), (0,), ()),
                      ("spell", (0,), (), great, ((0,),), (0,), ())):
            self.assertEqual(fault((TRUE, LOOK, entry), ("true",), 2, WORLD), 2)


if __name__ == "__main__":
    unittest.main()
