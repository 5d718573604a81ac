"""3.11, and of 3.12 what speaks of texts of sequences."""

import unittest

from automatics.errors import AutomaticError, BadText
from automatics.knownseq import residues, thue_morse
from automatics.sequence import Sequence
from automatics.sequencetext import sequence_of, sequence_text
from tests.helpers import random_sequence, sequence_parts, small_sequences

THUE_MORSE = "sequence 2 2\n0 0 1\n1 1 0\n"


def wrong_line(text):
    """The line that BadText tells, or None if the text is that of a sequence."""
    try:
        sequence_of(text)
    except BadText as error:
        return error.line
    return None


class Texts(unittest.TestCase):

    def test_example(self):
        self.assertEqual(sequence_text(thue_morse()), THUE_MORSE)
        self.assertEqual(sequence_parts(sequence_of(THUE_MORSE)), sequence_parts(thue_morse()))

    def test_there_and_back(self):
        great = Sequence(2, [[state, 1999] for state in range(2000)], [state % 10 for state in range(2000)])
        for sequence in small_sequences() + [great, random_sequence(1, 4, 500, 10), residues(3, 10)]:
            text = sequence_text(sequence)
            self.assertIsInstance(text, str)
            lines = text.splitlines(keepends=True)
            self.assertEqual(len(lines), sequence.size() + 1)
            self.assertEqual(lines[0], f"sequence {sequence.base} {sequence.size()}\n")
            for line, output, row in zip(lines[1:], sequence.outputs, sequence.rows):
                self.assertEqual(line, f"{output} " + " ".join(map(str, row)) + "\n")
            again = sequence_of(text)
            self.assertIs(type(again), Sequence)
            self.assertEqual(sequence_parts(again), sequence_parts(sequence))

    def test_sequences_that_are_not_least(self):
        text = "sequence 2 3\n4 1 2\n4 0 2\n5 2 2\n"
        self.assertEqual(sequence_text(sequence_of(text)), text)

    def test_one_state(self):
        self.assertEqual(sequence_parts(sequence_of("sequence 4 1\n9 0 0 0 0\n")), (4, ((0, 0, 0, 0),), (9,)))

    def test_error(self):
        with self.assertRaises(AutomaticError) as caught:
            sequence_of("")
        self.assertIs(type(caught.exception), BadText)
        self.assertIs(type(caught.exception.line), int)


class WrongTexts(unittest.TestCase):

    def test_empty(self):
        self.assertEqual(wrong_line(""), 1)
        self.assertEqual(wrong_line("\n"), 1)

    def test_lines_missing(self):
        lines = THUE_MORSE.splitlines(keepends=True)
        for many in range(3):
            self.assertEqual(wrong_line("".join(lines[:many])), many + 1)

    def test_each_beginning(self):
        for end in range(len(THUE_MORSE)):
            self.assertEqual(wrong_line(THUE_MORSE[:end]), THUE_MORSE[:end].count("\n") + 1)

    def test_too_many_lines(self):
        for more in ("\n", " ", "0 0 1", "0 0 1\n", "x", "0 0 1\n0 0 1\n", "\n\n\n", "\r", "\x0b"):
            with self.subTest(more=more):
                self.assertEqual(wrong_line(THUE_MORSE + more), 4)

    def test_zeros_in_front_matter(self):
        self.assertEqual(wrong_line("sequence 2 2\n0 1 1\n1 1 1\n"), 0)
        self.assertEqual(wrong_line("sequence 2 3\n0 1 0\n0 1 2\n1 2 2\n"), 0)
        self.assertIsNone(wrong_line("sequence 2 2\n0 1 1\n0 1 1\n"))

    def test_other_lines_come_before_zeros_that_matter(self):
        self.assertEqual(wrong_line("sequence 2 2\n0 1 1\n1 1 1\nx"), 4)
        self.assertEqual(wrong_line("sequence 2 2\n0 1 1\n1 1 1"), 3)
        self.assertEqual(wrong_line("sequence 2 2\n0 1 1\n"), 3)
        self.assertEqual(wrong_line("sequence 2 2\n0 1 1\n1 1 2\n"), 3)

    def test_earlier_lines_come_first(self):
        self.assertEqual(wrong_line("sequence 2 2\n0 0 2\n1 1 0\nmore\n"), 2)
        self.assertEqual(wrong_line("sequence 5 2\n0 0 1"), 1)
        self.assertEqual(wrong_line("sequence 2 3\n0 0 3\n"), 2)
        self.assertEqual(wrong_line("sequence 2 2\n0 0 2"), 2)

    def test_first_line(self):
        for line in (
                "sequence 1 2", "sequence 5 2", "sequence 0 2", "sequence 2 0", "sequence 2 2001", "sequence 2 20000",
                "sequence 02 2", "sequence 2 02", "sequence +2 2", "sequence 2 +2", "sequence -2 2", "sequence 2 -2",
                "sequence  2 2", "sequence 2  2", "sequence 2 2 ", " sequence 2 2", "sequence 2 2 2", "sequence 2",
                "sequence", "sequence ", "Sequence 2 2", "sequences 2 2", "2 2", "sequence 2 2\r", "sequence\t2 2",
                "sequence 2,2", "sequence 2 2.0", "sequence 2 \u0662", "sequence 2 \u00b2", "sequence 2 1_0",
                "sequence 2 1e1", "sequence 2 " + "9" * 5000, "sequence 2 x", "sequence2 2", "", " ", "automaton 2 1 2"):
            with self.subTest(line=line):
                self.assertEqual(wrong_line(f"{line}\n0 0 1\n1 1 0\n"), 1)

    def test_states(self):
        for line in (
                "10 0 1", "0 0 2", "0 2 0", "0 0", "0", "0 0 1 0", "0  0 1", " 0 0 1", "0 0 1 ", "", " ", "00 0 1",
                "0 00 1", "0 0 01", "+0 0 1", "-0 0 1", "0 +0 1", "0 0 -1", "-1 0 1", "x 0 1", "0 x 1", "0,0,1",
                "0\t0 1", "0 0 1\r", "0 0\x0b1", "0 0\x0c1", "0 0 \u0661", "0 0 1.0", "0 0 " + "1" * 5000, "0 0 1_0",
                "0 0 2 0", "0 0 10", "12 0 0"):
            with self.subTest(line=line):
                self.assertEqual(wrong_line(f"sequence 2 2\n{line}\n1 1 0\n"), 2)
                self.assertEqual(wrong_line(f"sequence 2 2\n1 0 1\n{line}\n"), 3)

    def test_other_line_ends(self):
        self.assertEqual(wrong_line(THUE_MORSE.replace("\n", "\r\n")), 1)
        self.assertEqual(wrong_line(THUE_MORSE.replace("\n", "\r")), 1)
        self.assertEqual(wrong_line("sequence 2 2\n0 0 1\x0b1 1 0\n"), 2)

    def test_outputs_in_range(self):
        for output in range(10):
            self.assertIsNone(wrong_line(f"sequence 3 1\n{output} 0 0 0\n"))
        rows = "9 0 19\n" * 19
        self.assertIsNone(wrong_line(f"sequence 2 20\n{rows}9 0 19\n"))
        self.assertEqual(wrong_line(f"sequence 2 20\n{rows}10 0 19\n"), 21)
        self.assertEqual(wrong_line(f"sequence 2 20\n{rows}9 0 20\n"), 21)

    def test_number_of_states(self):
        row = "0 0 1998\n"
        self.assertIsNone(wrong_line("sequence 2 1999\n" + row * 1999))
        self.assertIsNone(wrong_line("sequence 2 2000\n" + row * 2000))
        self.assertEqual(wrong_line("sequence 2 2001\n" + row * 2001), 1)
        self.assertEqual(wrong_line("sequence 2 1998\n" + row * 1998), 2)
        self.assertEqual(wrong_line("sequence 2 2000\n" + row * 1999), 2001)
        self.assertEqual(wrong_line("sequence 2 2000\n" + row * 2001), 2002)


if __name__ == "__main__":
    unittest.main()
