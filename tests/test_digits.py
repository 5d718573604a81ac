"""2.1 to 2.3, 2.9: numbers as words."""

import itertools
import random
import unittest

from automatics.automaton import Automaton
from automatics.combine import everything, nothing
from automatics.digits import digits_of, number_of, numbers_of, takes, word_of
from automatics.errors import BadWord


def plain_digits(number, base):
    """The digits, taken off one after the other."""
    digits = []
    while number:
        number, digit = divmod(number, base)
        digits.append(digit)
    return tuple(reversed(digits))


def plain_word(numbers, base):
    """The shortest word of some numbers."""
    rows = [plain_digits(number, base) for number in numbers]
    length = max(map(len, rows), default=0)
    return tuple(tuple(([0] * (length - len(row)) + list(row))[at] for row in rows) for at in range(length))


class Digits(unittest.TestCase):

    def test_zero(self):
        for base in (2, 3, 4):
            self.assertEqual(digits_of(0, base), ())
            self.assertEqual(number_of((), base), 0)

    def test_small_numbers(self):
        for base in (2, 3, 4):
            for number in range(1100):
                digits = digits_of(number, base)
                self.assertIsInstance(digits, tuple)
                self.assertEqual(digits, plain_digits(number, base))
                self.assertEqual(number_of(digits, base), number)
        self.assertEqual(digits_of(11, 2), (1, 0, 1, 1))
        self.assertEqual(digits_of(11, 3), (1, 0, 2))
        self.assertEqual(digits_of(11, 4), (2, 3))

    def test_zeros_in_front(self):
        for base in (2, 3, 4):
            for number in (0, 1, 2, 5, 80, 10 ** 20):
                for many in (1, 2, 3, 50):
                    self.assertEqual(number_of((0,) * many + digits_of(number, base), base), number)

    def test_around_powers(self):
        for base in (2, 3, 4):
            for many in list(range(1, 40)) + [63, 64, 65, 127, 128, 1000]:
                self.assertEqual(digits_of(base ** many, base), (1,) + (0,) * many)
                self.assertEqual(digits_of(base ** many - 1, base), (base - 1,) * many)

    def test_many_thousand_digits(self):
        source = random.Random(1)
        for base in (2, 3, 4):
            digits = (1,) + tuple(source.randrange(base) for _ in range(60000))
            number = number_of(digits, base)
            self.assertEqual(digits_of(number, base), digits)
            self.assertEqual(number % base, digits[-1])
            self.assertTrue(base ** 60000 <= number < 2 * base ** 60000)

    def test_many_digits_against_the_plain_way(self):
        number = 7 ** 3000
        for base in (2, 3, 4):
            self.assertEqual(digits_of(number, base), plain_digits(number, base))

    def test_arguments_are_not_changed(self):
        digits = [1, 0, 1]
        number_of(digits, 2)
        self.assertEqual(digits, [1, 0, 1])


class Words(unittest.TestCase):

    def test_example(self):
        self.assertEqual(word_of((5, 2), 2), ((1, 0), (0, 1), (1, 0)))

    def test_rows_of_numbers(self):
        source = random.Random(2)
        for base in (2, 3, 4):
            for tracks in range(6):
                for _ in range(40):
                    numbers = tuple(source.randrange(10 ** source.randrange(1, 8)) for _ in range(tracks))
                    word = word_of(numbers, base)
                    self.assertEqual(word, plain_word(numbers, base))
                    self.assertIsInstance(word, tuple)
                    self.assertTrue(all(isinstance(letter, tuple) for letter in word))
                    self.assertEqual(numbers_of(word, tracks, base), numbers)
                    if word:
                        self.assertTrue(any(word[0]))

    def test_no_numbers(self):
        for base in (2, 3, 4):
            self.assertEqual(word_of((), base), ())
            for many in range(4):
                self.assertEqual(numbers_of(((),) * many, 0, base), ())

    def test_only_zeros(self):
        for tracks in range(6):
            self.assertEqual(word_of((0,) * tracks, 3), ())
            self.assertEqual(numbers_of((), tracks, 3), (0,) * tracks)
            self.assertEqual(numbers_of(((0,) * tracks,) * 4, tracks, 3), (0,) * tracks)

    def test_zeros_in_front(self):
        for numbers in itertools.product((0, 1, 5, 12), repeat=2):
            for many in range(4):
                word = ((0, 0),) * many + word_of(numbers, 2)
                self.assertEqual(numbers_of(word, 2, 2), numbers)

    def test_all_short_words(self):
        for word in itertools.product(itertools.product(range(3), repeat=2), repeat=3):
            expected = tuple(9 * word[0][at] + 3 * word[1][at] + word[2][at] for at in range(2))
            self.assertEqual(numbers_of(word, 2, 3), expected)

    def test_long_numbers(self):
        numbers = (3 ** 9000, 5, 2 ** 30000 + 1)
        for base in (2, 3, 4):
            self.assertEqual(numbers_of(word_of(numbers, base), 3, base), numbers)


class Takes(unittest.TestCase):

    def test_shortest_word(self):
        # Accepts just the words that begin with a letter that is not all zeros, so zeros in front matter.
        automaton = Automaton(2, 2, [(2, 1, 1, 1), (1, 1, 1, 1), (2, 2, 2, 2)], [1])
        for numbers in itertools.product(range(6), repeat=2):
            self.assertIs(takes(automaton, numbers), numbers != (0, 0))
        self.assertIs(takes(everything(3, 1), (7,)), True)
        self.assertIs(takes(nothing(3, 1), (7,)), False)

    def test_no_numbers(self):
        self.assertIs(takes(Automaton(2, 0, [(1,), (1,)], [0]), ()), True)
        self.assertIs(takes(Automaton(2, 0, [(1,), (1,)], [1]), ()), False)

    def test_long_numbers(self):
        odd = Automaton(2, 1, [(0, 1), (1, 0)], [1])
        self.assertTrue(takes(odd, (2 ** 20001 - 1,)))
        self.assertFalse(takes(odd, (2 ** 20000 - 1,)))

    def test_other_number_of_numbers(self):
        for tracks in range(6):
            for many in range(8):
                if many != tracks:
                    with self.subTest(tracks=tracks, many=many), self.assertRaises(BadWord):
                        takes(everything(2, tracks), (1,) * many)


if __name__ == "__main__":
    unittest.main()
