"""6.8: what the checker takes is true, also of logs that were changed at random."""

import random
import unittest

from automatics.automaton import Automaton
from automatics.check import fault
from automatics.compiling import compiled
from automatics.digits import takes
from automatics.errors import TooMany
from automatics.formula import free
from automatics.formulatext import formula_of
from automatics.least import alike
from automatics.log import log_of, told
from automatics.plain import holds_below
from tests.formulas import SEQUENCES_BY_BASE, guarded_formula, rows_of_values
from tests.logs import changed, without_item

TEXTS = (
    "a < b", "a + a = b + 1", "(T[a] = @1 & a < 3)", "(T[a] = @1 | S[a] = @1)", "some x (a = x + x)", "T[a] = S[b]",
    "!(some x (x + x < a))", "T[a + 1] = @1", "all x ((!(x < a) | T[x] = @0))", "some x (a = b)", "T[a] = T[a]")


def somewhere_else(source, value):
    """A value in which something small is another one."""
    if isinstance(value, tuple) and value and source.random() < 0.9:
        at = source.randrange(len(value))
        kind = source.randrange(12)
        if kind == 0:
            return without_item(value, at)
        if kind == 1:
            return value[:at] + value[at:at + 1] + value[at:]
        if kind == 2:
            other = source.randrange(len(value))
            return changed(changed(value, at, value[other]), other, value[at])
        return changed(value, at, somewhere_else(source, value[at]))
    if isinstance(value, int):
        return source.choice((value + 1, value - 1, 0, 1, 2))
    if value is None:
        return source.randrange(3)
    return source.choice(("over", "under", "and", "or", "a", "b", None, (), 0, "least", "T", "S", "=", "<"))


class Taken(unittest.TestCase):

    def check_truth(self, log, formula, base):
        """Compares the last automaton with the truth of the formula for small numbers, with zeros in front too."""
        sequences = SEQUENCES_BY_BASE[base]
        found = told(log, base)
        for values in rows_of_values(formula, 4):
            numbers = tuple(values[variable] for variable in free(formula))
            self.assertEqual(takes(found, numbers), holds_below(formula, values, sequences, 60))

    def test_logs_of_formulas(self):
        for base in (2, 3, 4):
            source = random.Random(base)
            for _ in range(40):
                formula = guarded_formula(source, 2)
                try:
                    log = log_of(formula, base, SEQUENCES_BY_BASE[base])
                except TooMany:
                    continue
                self.assertIsNone(fault(log, formula, base, SEQUENCES_BY_BASE[base]))
                self.check_truth(log, formula, base)

    def test_changed_logs(self):
        for base in (2, 3):
            sequences = SEQUENCES_BY_BASE[base]
            taken = refused = 0
            for seed, text in enumerate(TEXTS):
                source = random.Random(seed)
                formula = formula_of(text)
                log = log_of(formula, base, sequences)
                right = compiled(formula, base, sequences)
                for _ in range(400):
                    other = log
                    for _ in range(source.randrange(1, 4)):
                        other = somewhere_else(source, other)
                    found = fault(other, formula, base, sequences)
                    if found is None:
                        # Its automaton need not be least, but its language is right.
                        self.assertTrue(alike(told(other, base), right))
                        taken += other != log
                    else:
                        refused += 1
                        if isinstance(other, tuple):
                            self.assertTrue(0 <= found <= len(other))
            self.assertGreater(refused, 3000)
            self.assertGreater(taken, 5)

    def test_changed_automata(self):
        # Everything but the rows and the accepting states stays: only few such automata are taken.
        source = random.Random(7)
        for text in TEXTS:
            formula = formula_of(text)
            log = log_of(formula, 2, SEQUENCES_BY_BASE[2])
            right = compiled(formula, 2, SEQUENCES_BY_BASE[2])
            for _ in range(200):
                at = source.randrange(len(log))
                entry = log[at]
                item = source.choice((4, 5, 6))
                other = changed(log, at, changed(entry, item, somewhere_else(source, entry[item])))
                if fault(other, formula, 2, SEQUENCES_BY_BASE[2]) is None:
                    self.assertTrue(alike(told(other, 2), right))

    def test_automata_that_are_not_least(self):
        # A log may end without "least": its automaton has the same language.
        formula = formula_of("a = b + 3")
        log = log_of(formula, 2, {})
        self.assertEqual(len(log), 2)
        self.assertIsNone(fault(log[:1], formula, 2, {}))
        found = told(log[:1], 2)
        self.assertGreater(found.size, told(log, 2).size)
        self.assertTrue(alike(found, compiled(formula, 2, {})))
        self.assertIs(type(found), Automaton)


if __name__ == "__main__":
    unittest.main()
