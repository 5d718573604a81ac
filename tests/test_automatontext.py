"""1.11, 1.12: texts of automata."""

import unittest

from automatics.automaton import Automaton, same
from automatics.automatontext import automaton_of, automaton_text
from automatics.combine import everything, nothing
from automatics.errors import AutomaticError, BadText
from tests.helpers import parts_of, random_automaton, ring, small_automata

ODD = "automaton 2 1 2\naccepts 1\n0 1\n1 0\n"


def wrong_line(text):
    """The line that BadText tells, or None if the text is that of an automaton."""
    try:
        automaton_of(text)
    except BadText as error:
        return error.line
    return None


class Texts(unittest.TestCase):

    def test_example(self):
        automaton = Automaton(2, 1, [(0, 1), (1, 0)], [1])
        self.assertEqual(automaton_text(automaton), ODD)
        self.assertTrue(same(automaton_of(ODD), automaton))

    def test_no_accepting_states(self):
        text = "automaton 3 1 1\naccepts\n0 0 0\n"
        self.assertEqual(automaton_text(nothing(3, 1)), text)
        self.assertEqual(parts_of(automaton_of(text)), parts_of(nothing(3, 1)))

    def test_no_tracks(self):
        text = "automaton 4 0 2\naccepts 0 1\n1\n0\n"
        automaton = Automaton(4, 0, [(1,), (0,)], [0, 1])
        self.assertEqual(automaton_text(automaton), text)
        self.assertTrue(same(automaton_of(text), automaton))

    def test_there_and_back(self):
        for automaton in small_automata() + [ring(5000), everything(4, 5), random_automaton(1, 2, 5, 12)]:
            text = automaton_text(automaton)
            self.assertIsInstance(text, str)
            lines = text.splitlines(keepends=True)
            self.assertEqual(len(lines), automaton.size + 2)
            self.assertEqual(lines[0], f"automaton {automaton.base} {automaton.tracks} {automaton.size}\n")
            self.assertEqual(lines[1], "accepts" + "".join(f" {state}" for state in automaton.accepting) + "\n")
            for line, row in zip(lines[2:], automaton.rows):
                self.assertEqual(line, " ".join(map(str, row)) + "\n")
            self.assertEqual(parts_of(automaton_of(text)), parts_of(automaton))

    def test_error(self):
        with self.assertRaises(AutomaticError) as caught:
            automaton_of("")
        self.assertIs(type(caught.exception), BadText)
        self.assertIs(type(caught.exception.line), int)


class WrongTexts(unittest.TestCase):

    def test_empty(self):
        self.assertEqual(wrong_line(""), 1)
        self.assertEqual(wrong_line("\n"), 1)

    def test_lines_missing(self):
        lines = ODD.splitlines(keepends=True)
        for many in range(4):
            self.assertEqual(wrong_line("".join(lines[:many])), many + 1)

    def test_last_line_without_its_newline(self):
        lines = ODD.splitlines(keepends=True)
        for many in range(1, 5):
            self.assertEqual(wrong_line("".join(lines[:many])[:-1]), many)

    def test_each_beginning(self):
        for end in range(len(ODD)):
            self.assertEqual(wrong_line(ODD[:end]), ODD[:end].count("\n") + 1)

    def test_too_many_lines(self):
        for more in ("\n", " ", "0 1", "0 1\n", "x", "0 1\n0 1\n", "\n\n\n", "\r", "\x0b"):
            with self.subTest(more=more):
                self.assertEqual(wrong_line(ODD + more), 5)

    def test_earlier_lines_come_first(self):
        self.assertEqual(wrong_line(ODD.replace("0 1\n", "0 2\n") + "more\n"), 3)
        self.assertEqual(wrong_line("automaton 2 1 2\naccepts 2\n0 9\n"), 2)
        self.assertEqual(wrong_line("automaton 2 1 2\naccepts 1\n0 2"), 3)
        self.assertEqual(wrong_line("automaton 5 1 2\naccepts 1"), 1)

    def test_first_line(self):
        for line in (
                "automaton 1 1 2", "automaton 5 1 2", "automaton 2 6 2", "automaton 2 1 0", "automaton 2 1 5001",
                "automaton 02 1 2", "automaton 2 01 2", "automaton 2 1 02", "automaton +2 1 2", "automaton 2 1 +2",
                "automaton 2 -1 2", "automaton 2 1 -2", "automaton  2 1 2", "automaton 2  1 2", "automaton 2 1  2",
                "automaton 2 1 2 ", " automaton 2 1 2", "automaton 2 1 2 0", "automaton 2 1", "automaton", "automaton ",
                "Automaton 2 1 2", "automata 2 1 2", "2 1 2", "automaton 2 1 2\r", "automaton\t2 1 2", "automaton 2,1,2",
                "automaton 2 1 2.0", "automaton 2 1 \u0662", "automaton 2 1 \u00b2", "automaton 2 1 2_0",
                "automaton 2 1 1e1", "automaton 2 1 " + "9" * 5000, "automaton 2 1 x", "automaton2 1 2", "", " "):
            with self.subTest(line=line):
                self.assertEqual(wrong_line(f"{line}\naccepts 1\n0 1\n1 0\n"), 1)

    def test_second_line(self):
        for line in (
                "accepts 2", "accepts 0 2", "accepts 1 0", "accepts 0 0", "accepts 1 1", "accepts ", "accepts  1",
                "accepts 0  1", "accepts 1 ", " accepts 1", "accept 1", "Accepts 1", "accepts 01", "accepts 00",
                "accepts +1", "accepts -0", "accepts -1", "accepts x", "accepts 0,1", "accepts\t1", "accepts 1\r",
                "accepts \u0661", "accepts1", "1", "", "0 1"):
            with self.subTest(line=line):
                self.assertEqual(wrong_line(f"automaton 2 1 2\n{line}\n0 1\n1 0\n"), 2)

    def test_rows(self):
        for line in (
                "0 2", "2 0", "0", "0 1 0", "0  1", " 0 1", "0 1 ", "", " ", "0 01", "00 1", "+0 1", "-0 1", "0 -1",
                "0 x", "0,1", "0\t1", "0 1\r", "0 1\x0b", "0\x0c1", "0 \u0661", "0 1.0", "0 " + "1" * 5000, "0 1_0"):
            with self.subTest(line=line):
                self.assertEqual(wrong_line(f"automaton 2 1 2\naccepts 1\n{line}\n1 0\n"), 3)
                self.assertEqual(wrong_line(f"automaton 2 1 2\naccepts 1\n1 0\n{line}\n"), 4)

    def test_other_line_ends(self):
        self.assertEqual(wrong_line(ODD.replace("\n", "\r\n")), 1)
        self.assertEqual(wrong_line(ODD.replace("\n", "\r")), 1)
        self.assertEqual(wrong_line("automaton 2 1 2\naccepts 1\x0b0 1\n1 0\n"), 2)

    def test_rows_without_tracks(self):
        self.assertEqual(wrong_line("automaton 2 0 1\naccepts\n\n"), 3)
        self.assertEqual(wrong_line("automaton 2 0 1\naccepts\n0 0\n"), 3)
        self.assertIsNone(wrong_line("automaton 2 0 1\naccepts\n0\n"))

    def test_states_in_range(self):
        row = "0 4999\n" * 5000
        self.assertIsNone(wrong_line(f"automaton 2 1 5000\naccepts 4999\n{row}"))
        self.assertEqual(wrong_line(f"automaton 2 1 5000\naccepts 5000\n{row}"), 2)
        self.assertEqual(wrong_line(f"automaton 2 1 4999\naccepts 4998\n{row}"), 3)
        self.assertEqual(wrong_line(f"automaton 2 1 5001\naccepts 4998\n{row}0 0\n"), 1)


if __name__ == "__main__":
    unittest.main()
