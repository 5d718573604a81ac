"""The interface: names, arguments, and the file in which each stands."""

import ast
import importlib
import inspect
import os
import unittest

PLACE = os.path.dirname(os.path.dirname(os.path.abspath(__file__)))

INTERFACE = {
    "automaton": [
        "Automaton.__init__(self, base, tracks, rows, accepting)", "Automaton.after(self, state, letter)",
        "Automaton.reach(self, word)", "Automaton.accepts(self, word)", "letters(base, tracks)",
        "letter_number(base, letter)", "same(first, second)"],
    "least": [
        "least(automaton)", "folding(automaton)", "alike(first, second)", "parting_word(first, second)",
        "first_word(automaton)"],
    "combine": [
        "product(first, second, way)", "opposite(automaton)", "both(first, second)", "either(first, second)",
        "nothing(base, tracks)", "everything(base, tracks)", "placed(automaton, tracks, places)"],
    "automatontext": ["automaton_text(automaton)", "automaton_of(text)"],
    "digits": [
        "digits_of(number, base)", "word_of(numbers, base)", "numbers_of(word, tracks, base)",
        "number_of(digits, base)", "takes(automaton, numbers)"],
    "steady": ["is_steady(automaton)", "steadied(automaton)"],
    "basic": [
        "linear(base, factors, constant, sign)", "equal(base)", "less(base)", "total(base)", "constant(base, c)",
        "multiple(base, modulus, rest)", "power(base)", "top_power(base)"],
    "sequence": [
        "Sequence.__init__(self, base, rows, outputs)", "Sequence.size(self)", "Sequence.state(self, n)",
        "Sequence.at(self, n)", "Sequence.first(self, count)", "least_sequence(sequence)", "same(first, second)",
        "differing(first, second)"],
    "made": [
        "mapped(sequence, table)", "paired(first, second, table)", "shifted(sequence, count)",
        "thinned(sequence, step, first)", "kernel(sequence)"],
    "morphism": [
        "Morphism.__init__(self, base, images, coding)", "Morphism.word(self, times)", "morphic(morphism)",
        "morphism_of(sequence)"],
    "knownseq": [
        "digit_sum(base, modulus)", "thue_morse()", "block_count(base, block, modulus)", "rudin_shapiro()",
        "paper_folding()", "powers(base)", "residues(base, modulus)", "repeating(base, front, loop)"],
    "sequencetext": ["sequence_text(sequence)", "sequence_of(text)"],
    "formula": [
        "is_term(value)", "is_formula(value)", "depth(formula)", "free(formula)", "names(formula)",
        "term(variables, constant)", "implies(p, q)", "both_ways(p, q)", "renamed(formula, old, new)",
        "put(formula, variable, constant)"],
    "plain": ["value_of(term, values)", "holds_below(formula, values, sequences, bound)"],
    "formulatext": ["formula_text(formula)", "formula_of(text)"],
    "project": ["looked(sequence, output)", "looked_both(first, second)", "left_out(automaton, track)"],
    "compiling": ["compiled(formula, base, sequences)", "spelled(formula)"],
    "log": ["log_of(formula, base, sequences)", "told(log, base)", "sizes(log)"],
    "check": ["fault(log, formula, base, sequences)"],
    "solve": [
        "decide(formula, base, sequences)", "is_finite(automaton)", "row_at(automaton, index)",
        "index_of(automaton, row)", "count_within(automaton, length)", "rows_within(automaton, length)",
        "count_all(automaton)"],
    "linear": [
        "Linear.__init__(self, base, first, matrices, last)", "Linear.size(self)", "Linear.value(self, x)",
        "Linear.values(self, count)", "counting(automaton, track)", "added(first, second)", "scaled(linear, factor)",
        "summed(linear)", "same_values(first, second)", "parting_number(first, second)"],
    "about": [
        "equal_blocks(name, i, j, n)", "square(name, i, p)", "mirrored(name, i, n)", "first_place(name, i, n)",
        "comes_again(name, i, n)", "rare_after(name, i, n, p)", "periodic_from(name, i, p)", "is_periodic(name)",
        "is_recurrent(name)", "has_square(name)", "has_overlap(name)"],
    "whole": [
        "likeness(first, second, base, sequences)", "block_numbers(sequence)", "square_lengths(sequence)",
        "mirror_lengths(sequence)", "places(sequence, block)", "least_period(sequence)"],
}


def defined(module):
    """The functions of a file, and the methods of its classes, with their arguments."""
    with open(os.path.join(PLACE, "automatics", module + ".py"), encoding="utf-8") as stream:
        tree = ast.parse(stream.read())
    found = []
    for node in tree.body:
        if isinstance(node, ast.FunctionDef):
            found.append(f"{node.name}({ast.unparse(node.args)})")
        if isinstance(node, ast.ClassDef):
            found.extend(
                f"{node.name}.{part.name}({ast.unparse(part.args)})" for part in node.body
                if isinstance(part, ast.FunctionDef))
    return found


class Interface(unittest.TestCase):

    def test_each_stands_in_its_file(self):
        for module, calls in INTERFACE.items():
            found = defined(module)
            for call in calls:
                with self.subTest(module=module, call=call):
                    self.assertIn(call, found)

    def test_each_is_imported_from_its_module(self):
        for module, calls in INTERFACE.items():
            loaded = importlib.import_module("automatics." + module)
            for call in calls:
                name = call.partition("(")[0].partition(".")[0]
                self.assertEqual(inspect.getmodule(getattr(loaded, name)), loaded)

    def test_package_itself_holds_nothing(self):
        with open(os.path.join(PLACE, "automatics", "__init__.py"), encoding="utf-8") as stream:
            self.assertEqual(len(ast.parse(stream.read()).body), 1)


if __name__ == "__main__":
    unittest.main()
