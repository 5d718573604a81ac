"""3.8, 3.9: morphisms and the sequences that come from them."""

import random
import unittest

from automatics.errors import BadMorphism, TooMany
from automatics.knownseq import digit_sum, powers, rudin_shapiro, thue_morse
from automatics.morphism import Morphism, morphic, morphism_of
from automatics.sequence import Sequence, least_sequence, same
from tests.helpers import NO_INTEGERS, great_numbers, member, sequence_parts, small_sequences

IMAGES = [[0, 1], [2, 0], [2, 2]]
WRONG_LISTS = (None, True, 0, 1, 2.5, "012", "", b"012", {0: 1}, {0, 1}, {}, range(3), object(), iter(()))


def plain_word(images, times):
    """The word after replacing all letters so many times."""
    word = [0]
    for _ in range(times):
        word = [letter for before in word for letter in images[before]]
    return tuple(word)


def random_morphism(seed, base, size):
    """A morphism of random images."""
    source = random.Random(seed)
    images = [[source.randrange(size) for _ in range(base)] for _ in range(size)]
    images[0][0] = 0
    return Morphism(base, images, [source.randrange(10) for _ in range(size)])


class Creating(unittest.TestCase):

    def test_attributes(self):
        for outer in (list, tuple):
            for inner in (list, tuple):
                for last in (list, tuple):
                    morphism = Morphism(2, outer(inner(image) for image in IMAGES), last((9, 0, 9)))
                    self.assertEqual(morphism.base, 2)
                    self.assertIs(type(morphism.base), int)
                    self.assertEqual(morphism.images, ((0, 1), (2, 0), (2, 2)))
                    self.assertIs(type(morphism.images), tuple)
                    self.assertEqual({type(image) for image in morphism.images}, {tuple})
                    self.assertEqual(morphism.coding, (9, 0, 9))
                    self.assertIs(type(morphism.coding), tuple)

    def test_what_was_passed_may_be_changed(self):
        images, coding = [[0, 1], [1, 0]], [0, 1]
        morphism = Morphism(2, images, coding)
        images[0][1] = 0
        images.append([0, 0])
        coding[0] = 5
        self.assertEqual((morphism.images, morphism.coding), (((0, 1), (1, 0)), (0, 1)))
        self.assertEqual(morphism.word(2), (0, 1, 1, 0))

    def test_number_of_letters(self):
        for size, right in ((1, True), (2000, True), (2001, False), (0, False)):
            images = [[0, size - 1] for _ in range(size)]
            with self.subTest(size=size):
                if right:
                    self.assertEqual(len(Morphism(2, images, [1] * size).images), size)
                else:
                    with self.assertRaises(BadMorphism):
                        Morphism(2, images, [1] * size)

    def test_wrong_bases(self):
        for base in NO_INTEGERS + (0, 1, 5, 2.0):
            for width in (1, 2, 3, 4, 5):
                with self.subTest(base=base), self.assertRaises(BadMorphism):
                    Morphism(base, [[0] * width], [0])

    def test_wrong_images(self):
        for images in WRONG_LISTS + ([], (), [None] * 3, IMAGES[:2], IMAGES + [[0, 0]]):
            with self.subTest(images=images), self.assertRaises(BadMorphism):
                Morphism(2, images, [0, 1, 2])
        for image in WRONG_LISTS + ([], [0], [0, 1, 0], (0,), "01", {0: 1, 1: 1}):
            for at in (0, 1, 2):
                images = [list(image) for image in IMAGES]
                images[at] = image
                with self.subTest(images=images), self.assertRaises(BadMorphism):
                    Morphism(2, images, [0, 1, 2])
        with self.assertRaises(BadMorphism):
            Morphism(3, IMAGES, [0, 1, 2])

    def test_wrong_letters(self):
        for letter in NO_INTEGERS + (3, 4, 1.0):
            for at in (0, 1, 2):
                for place in (0, 1):
                    images = [list(image) for image in IMAGES]
                    images[at][place] = letter
                    with self.subTest(images=images), self.assertRaises(BadMorphism):
                        Morphism(2, images, [0, 1, 2])

    def test_image_of_0_begins_with_0(self):
        for images in ([[1, 0], [1, 0]], [[1, 1], [0, 1]]):
            with self.assertRaises(BadMorphism):
                Morphism(2, images, [0, 0])
        # Even if the letters have the same codings.
        with self.assertRaises(BadMorphism):
            Morphism(2, [[1, 1], [0, 0]], [3, 3])

    def test_wrong_codings(self):
        for coding in WRONG_LISTS + ([], [0, 1], [0, 1, 2, 3], ()):
            with self.subTest(coding=coding), self.assertRaises(BadMorphism):
                Morphism(2, IMAGES, coding)
        for output in NO_INTEGERS + (10, 11, 1.0):
            for at in (0, 1, 2):
                coding = [0, 1, 2]
                coding[at] = output
                with self.subTest(coding=coding), self.assertRaises(BadMorphism):
                    Morphism(2, IMAGES, coding)


class Words(unittest.TestCase):

    def test_words(self):
        for base in (2, 3, 4):
            for seed in range(10):
                morphism = random_morphism(seed, base, 1 + seed % 5)
                for times in range(6):
                    word = morphism.word(times)
                    self.assertIs(type(word), tuple)
                    self.assertEqual(word, plain_word(morphism.images, times))
                    self.assertEqual(morphism.word(times + 1)[:len(word)], word)

    def test_no_times(self):
        self.assertEqual(random_morphism(1, 3, 4).word(0), (0,))

    def test_longest(self):
        for base, times in ((2, 16), (3, 10), (4, 8)):
            for size in (1, 2, 7):
                morphism = random_morphism(size, base, size)
                self.assertEqual(morphism.word(times), plain_word(morphism.images, times))
                for more in (1, 2, 10, 1000, 10 ** 9, 10 ** 40):
                    with self.assertRaises(TooMany):
                        morphism.word(times + more)


class ThereAndBack(unittest.TestCase):

    def test_members_of_the_endless_word(self):
        for base in (2, 3, 4):
            for seed in range(10):
                morphism = random_morphism(seed, base, 1 + seed % 5)
                sequence = morphic(morphism)
                self.assertIs(type(sequence), Sequence)
                self.assertEqual(sequence_parts(sequence), (base, morphism.images, morphism.coding))
                word = morphism.word(4)
                self.assertEqual(sequence.first(len(word)), [morphism.coding[letter] for letter in word])

    def test_letters_that_do_not_come_up_stay(self):
        morphism = Morphism(2, [[0, 0], [1, 0], [1, 1]], [5, 5, 5])
        self.assertEqual(morphic(morphism).size(), 3)

    def test_morphism_of(self):
        for seed, sequence in enumerate(small_sequences()):
            morphism = morphism_of(sequence)
            small = least_sequence(sequence)
            self.assertIs(type(morphism), Morphism)
            self.assertEqual((morphism.base, morphism.images, morphism.coding), sequence_parts(small))
            self.assertEqual(sequence_parts(morphic(morphism)), sequence_parts(small))
            self.assertTrue(same(morphic(morphism), sequence))
            word = morphism.word(4)
            self.assertEqual(
                [morphism.coding[letter] for letter in word], [member(sequence, n) for n in range(len(word))])
            for n in great_numbers(seed, 1):
                self.assertEqual(morphic(morphism).at(n), member(sequence, n))

    def test_back_for_least_ones(self):
        for sequence in (thue_morse(), rudin_shapiro(), powers(3), digit_sum(4, 7)):
            self.assertEqual(sequence_parts(morphic(morphism_of(sequence))), sequence_parts(sequence))
            again = morphism_of(morphic(morphism_of(sequence)))
            self.assertEqual((again.base, again.images, again.coding), sequence_parts(sequence))

    def test_example(self):
        morphism = morphism_of(thue_morse())
        self.assertEqual(morphism.images, ((0, 1), (1, 0)))
        self.assertEqual(morphism.coding, (0, 1))
        self.assertEqual(morphism.word(3), (0, 1, 1, 0, 1, 0, 0, 1))


if __name__ == "__main__":
    unittest.main()
