"""Logs, which say in steps how an automaton was found."""

from automatics.automaton import Automaton, accepting_flags, letters
from automatics.compiling import check_formula, joined_places, places_of, spelled
from automatics.errors import TooMany
from automatics.formula import balance, free
from automatics.formulatext import formula_text
from automatics.least import folded, folding
from automatics.splits import parting_words
from automatics.steps import compared, joined, members_agree, members_told, without
from automatics.subsets import members

MOST_ENTRIES = 400


class Writer:
    """A log that is written: its entries, their automata, and which of them claims which formula."""

    def __init__(self, base, sequences):
        self.base = base
        self.sequences = sequences
        self.entries = []
        self.automata = []
        self.places = {}

    def place(self, formula):
        """Returns the number of the entry with the least automaton of a formula, which is written if there is none."""
        key = formula_text(formula)
        if key not in self.places:
            self.places[key] = self.write_formula(formula)
        return self.places[key]

    def write_formula(self, formula):
        """Writes entries up to that with the least automaton of a formula; returns its number."""
        kind = formula[0]
        instead = spelled(formula)
        if instead is not None:
            part = self.place(instead)
            return self.write_entry("spell", (part,), formula, self.automata[part], ())
        if kind == "true":
            return self.write_entry("true", (), formula, Automaton(self.base, 0, [(0,)], [0]), ())
        if kind in ("=", "<"):
            _, factors, constant = balance(formula)
            automaton, values = compared(self.base, kind, factors, constant)
            return self.least(self.write_entry("compare", (), formula, automaton, tuple(values)))
        if kind == "is":
            automaton = members_told(self.sequences[formula[1]], formula[3])
            return self.least(self.write_entry("look", (), formula, automaton, ()))
        if kind == "same":
            first, second = self.sequences[formula[1]], self.sequences[formula[3]]
            automaton, pairs = members_agree(first, second, places_of(formula))
            return self.least(self.write_entry("look both", (), formula, automaton, tuple(pairs)))
        if kind == "not":
            return self.write_not(formula)
        if kind == "some":
            return self.write_some(formula)
        return self.write_joined(formula)

    def write_not(self, formula):
        """Writes the entry of a "not", whose automaton is least as that of its part is."""
        part = self.place(formula[1])
        automaton = self.automata[part]
        flags = accepting_flags(automaton)
        others = [state for state in range(automaton.size) if not flags[state]]
        opposed = Automaton(self.base, automaton.tracks, automaton.rows, others)
        return self.write_entry("not", (part,), formula, opposed, ())

    def write_some(self, formula):
        """Writes the entries of a "some"."""
        _, variable, inner = formula
        part = self.place(inner)
        variables = free(inner)
        if variable not in variables:
            return self.write_entry("some", (part,), formula, self.automata[part], ())
        automaton, masks = without(self.automata[part], variables.index(variable))
        shown = tuple([members(mask) for mask in masks])
        number = self.write_entry("some", (part,), formula, automaton, shown)
        # Written even if the automaton is least: so the example of the document has it.
        return self.write_least(number, folding(automaton))

    def write_joined(self, formula):
        """Writes the entries of an "and" or "or"."""
        kind, first, second = formula
        numbers = (self.place(first), self.place(second))
        automata = [self.automata[number] for number in numbers]
        automaton, pairs = joined(kind, len(free(formula)), automata[0], automata[1], joined_places(formula))
        return self.least(self.write_entry(kind, numbers, formula, automaton, tuple(pairs)))

    def least(self, part):
        """Returns the number of the entry with the least automaton of that of an entry, which may be this one."""
        automaton = self.automata[part]
        fold = folding(automaton)
        return part if fold == list(range(automaton.size)) else self.write_least(part, fold)

    def write_least(self, part, fold):
        """Writes the entry with the least automaton, to which the states of that of an entry are folded so."""
        small = folded(self.automata[part], fold)
        alphabet = letters(self.base, small.tracks)
        tests = [
            tuple([alphabet[number] for number in word])
            for word in parting_words(small.rows, accepting_flags(small))]
        return self.write_entry("least", (part,), self.entries[part][3], small, (tuple(fold), tuple(tests)))

    def write_entry(self, rule, parts, formula, automaton, shown):
        """Writes an entry and returns its number."""
        if len(self.entries) == MOST_ENTRIES:
            raise TooMany("there are more than 400 entries")
        variables = tuple(free(formula))
        self.entries.append((rule, parts, variables, formula, automaton.rows, automaton.accepting, shown))
        self.automata.append(automaton)
        return len(self.entries) - 1


def log_of(formula, base, sequences):
    """Returns a log whose last entry claims a formula, with the least automaton."""
    check_formula(formula, base, sequences)
    writer = Writer(base, sequences)
    writer.place(formula)
    return tuple(writer.entries)


def told(log, base):
    """Returns the automaton of the last entry of a log."""
    _, _, variables, _, rows, accepting, _ = log[-1]
    return Automaton(base, len(variables), rows, accepting)


def sizes(log):
    """Returns the list of the numbers of states of the entries."""
    return [len(entry[4]) for entry in log]
