"""3.10, and of 3.12 what speaks of known sequences."""

import itertools
import random
import unittest

from automatics.errors import BadSequence
from automatics.knownseq import (
    block_count, digit_sum, paper_folding, powers, repeating, residues, rudin_shapiro, thue_morse)
from automatics.made import kernel
from automatics.sequence import Sequence
from tests.helpers import NO_INTEGERS, digits_up, great_numbers, plain_least_parts, sequence_parts

BASES = (2, 3, 4)
WRONG_BASES = NO_INTEGERS + (0, 1, 5, 2.0)
WRONG_MODULI = NO_INTEGERS + (0, 11, 12, 2.0)


def plain_count(number, base, block):
    """How often a block stands in the digits of a number, with zeros in front."""
    digits = [0] * len(block) + digits_up(number, base)
    return sum(tuple(digits[at:at + len(block)]) == block for at in range(len(digits)))


def plain_fold(number):
    """0 if number + 1 is a power of 2 times a number that leaves 1 by 4, and otherwise 1."""
    odd = number + 1
    while odd % 2 == 0:
        odd //= 2
    return 0 if odd % 4 == 1 else 1


def plain_power(number, base):
    """1 if a number is a power of a base, otherwise 0."""
    power = 1
    while power < number:
        power *= base
    return int(power == number)


class Case(unittest.TestCase):

    def check(self, sequence, base, rule, small=200, great=1):
        self.assertIs(type(sequence), Sequence)
        self.assertEqual(sequence.base, base)
        self.assertEqual(sequence.first(small), [rule(n) for n in range(small)])
        for n in great_numbers(7, great):
            self.assertEqual(sequence.at(n), rule(n))
        self.assertEqual(sequence_parts(sequence), plain_least_parts(sequence))

    def check_wrong(self, values, call):
        for value in values:
            with self.subTest(value=value), self.assertRaises(BadSequence):
                call(value)


class DigitSums(Case):

    def test_members(self):
        for base in BASES:
            for modulus in range(1, 11):
                sequence = digit_sum(base, modulus)
                self.check(sequence, base, lambda n: sum(digits_up(n, base)) % modulus)
                self.assertEqual(sequence.size(), modulus)

    def test_thue_morse(self):
        self.check(thue_morse(), 2, lambda n: bin(n).count("1") % 2, 1000, 5)
        self.assertEqual(sequence_parts(thue_morse()), (2, ((0, 1), (1, 0)), (0, 1)))

    def test_wrong(self):
        self.check_wrong(WRONG_BASES, lambda base: digit_sum(base, 2))
        for base in BASES:
            self.check_wrong(WRONG_MODULI, lambda modulus: digit_sum(base, modulus))


class BlockCounts(Case):

    def test_all_short_blocks(self):
        for base in BASES:
            for length in (1, 2):
                for block in itertools.product(range(base), repeat=length):
                    if any(block):
                        for modulus in (1, 2, 10):
                            self.check(
                                block_count(base, block, modulus), base,
                                lambda n: plain_count(n, base, block) % modulus, 100)

    def test_long_blocks(self):
        for base, block in (
                (2, (0, 0, 1)), (2, (0, 0, 0, 1)), (2, (1, 0, 0, 0)), (2, (1, 0, 1)), (2, (1, 0, 1, 0)),
                (2, (0, 1, 0, 1)), (2, (1, 1, 1)), (2, (1, 1, 1, 1)), (2, (0, 1, 1, 0)), (3, (0, 2, 0)),
                (3, (2, 1, 2, 1)), (3, (0, 0, 2, 2)), (4, (3, 3, 3)), (4, (0, 3, 0, 3))):
            for modulus in (2, 3, 10):
                rule = lambda n: plain_count(n, base, block) % modulus
                self.check(block_count(base, block, modulus), base, rule, 400, 2)

    def test_zeros_in_front_begin_a_block(self):
        self.assertEqual(block_count(2, (0, 1), 10).first(4), [0, 1, 1, 1])
        self.assertEqual(block_count(2, (0, 0, 0, 1), 10).first(4), [0, 1, 1, 1])
        self.assertEqual(block_count(4, (0, 3), 10).at(3), 1)

    def test_blocks_overlap(self):
        self.assertEqual(block_count(2, (1, 1), 10).at(2 ** 8 - 1), 7)
        self.assertEqual(block_count(3, (2, 2, 2, 2), 10).at(3 ** 8 - 1), 5)
        self.assertEqual(block_count(2, (1, 0, 1), 10).at(0b1010101), 3)
        self.assertEqual(block_count(2, (0, 1, 0, 1), 10).at(0b1010101), 3)

    def test_rudin_shapiro(self):
        self.check(rudin_shapiro(), 2, lambda n: plain_count(n, 2, (1, 1)) % 2, 1000, 5)
        self.assertEqual(rudin_shapiro().first(16), [0, 0, 0, 1, 0, 0, 1, 0, 0, 0, 0, 1, 1, 1, 0, 1])

    def test_wrong(self):
        self.check_wrong(WRONG_BASES, lambda base: block_count(base, (1, 1), 2))
        self.check_wrong(WRONG_MODULI, lambda modulus: block_count(2, (1, 1), modulus))
        for base in BASES:
            blocks = [(), (1,) * 5, (1,) * 6, (0,), (0, 0), (0,) * 3, (0,) * 4, (base,), (1, base), (base, 1, 1, 1)]
            self.check_wrong(blocks, lambda block: block_count(base, block, 2))
        self.check_wrong(
            (None, True, 1, 11, 1.5, "11", b"11", [1, 1], {1: 1}, {1}, range(1, 3), object()),
            lambda block: block_count(2, block, 2))
        for digit in NO_INTEGERS + (2, 1.0):
            self.check_wrong(((digit, 1), (1, digit), (0, 1, digit, 0)), lambda block: block_count(2, block, 2))


class PaperFolding(Case):

    def test_members(self):
        self.check(paper_folding(), 2, plain_fold, 2000, 5)
        self.assertEqual(paper_folding().first(15), [0, 0, 1, 0, 0, 1, 1, 0, 0, 0, 1, 1, 0, 1, 1])


class Powers(Case):

    def test_members(self):
        for base in BASES:
            self.check(powers(base), base, lambda n: plain_power(n, base), 1100)
            for exponent in (0, 1, 2, 5, 2000):
                for more, output in ((0, 1), (1, int(base == 2 and exponent == 0)), (-1, int(base == 2 and exponent == 1))):
                    self.assertEqual(powers(base).at(base ** exponent + more), output)

    def test_wrong(self):
        self.check_wrong(WRONG_BASES, powers)


class Residues(Case):

    def test_members(self):
        for base in BASES:
            for modulus in range(1, 11):
                self.check(residues(base, modulus), base, lambda n: n % modulus)

    def test_wrong(self):
        self.check_wrong(WRONG_BASES, lambda base: residues(base, 2))
        for base in BASES:
            self.check_wrong(WRONG_MODULI, lambda modulus: residues(base, modulus))


class Repeating(Case):

    def check_parts(self, base, front, loop):
        def rule(n):
            return front[n] if n < len(front) else loop[(n - len(front)) % len(loop)]
        self.check(repeating(base, front, loop), base, rule, 150)

    def test_drawn_ones(self):
        source = random.Random(3)
        for base in BASES:
            for most in (2, 10):
                for _ in range(40):
                    front = tuple(source.randrange(most) for _ in range(source.randrange(21)))
                    loop = tuple(source.randrange(most) for _ in range(source.randrange(1, 21)))
                    self.check_parts(base, front, loop)

    def test_edges(self):
        for base in BASES:
            for front in ((), (0,), (9,), (1, 1), (5,) * 20, tuple(range(10)) * 2):
                for loop in ((0,), (5,), (1, 1), (0, 1), (1, 0, 0), (5,) * 20, tuple(range(10)) * 2):
                    self.check_parts(base, front, loop)

    def test_fewest_states(self):
        self.assertEqual(repeating(2, (), (3,)).size(), 1)
        self.assertEqual(repeating(2, (3, 3, 3), (3, 3)).size(), 1)
        self.assertEqual(sequence_parts(repeating(2, (), (0, 1))), sequence_parts(residues(2, 2)))
        self.assertEqual(sequence_parts(repeating(3, (0, 1), (0, 1))), sequence_parts(residues(3, 2)))

    def test_wrong(self):
        self.check_wrong(WRONG_BASES, lambda base: repeating(base, (1,), (2,)))
        parts = (
            None, True, 1, 1.5, "1", b"1", [], [1], {}, {1: 1}, {1}, range(2), object(), (0,) * 21, (0,) * 22, ((1,),))
        self.check_wrong(parts, lambda front: repeating(2, front, (1,)))
        self.check_wrong(parts + ((),), lambda loop: repeating(2, (1,), loop))
        for output in NO_INTEGERS + (10, 1.0):
            self.check_wrong(((output,), (1, output), (output,) + (0,) * 19), lambda part: repeating(2, part, (1,)))
            self.check_wrong(((output,), (1, output), (output,) + (0,) * 19), lambda part: repeating(2, (1,), part))


class Example(Case):

    def test_thue_morse(self):
        self.assertEqual(thue_morse().rows, ((0, 1), (1, 0)))
        self.assertEqual(thue_morse().outputs, (0, 1))
        self.assertEqual(
            [sequence_parts(made) for made in kernel(thue_morse())],
            [(2, ((0, 1), (1, 0)), (0, 1)), (2, ((0, 1), (1, 0)), (1, 0))])


if __name__ == "__main__":
    unittest.main()
