"""Morphisms, which replace each letter by as many letters as the base."""

from automatics.errors import BadMorphism, TooMany
from automatics.integers import is_base
from automatics.sequence import MOST_STATES, Sequence, least_sequence
from automatics.tables import are_outputs, are_rows, copied_rows

LONGEST_WORD = 100000


class Morphism:
    """Images of letters, and their codings; the image of the letter 0 begins with 0."""

    def __init__(self, base, images, coding):
        if not is_base(base):
            raise BadMorphism("the base is not an integer from 2 to 4")
        if not are_rows(images, base, MOST_STATES):
            raise BadMorphism("the images are not from 1 to 2000 of as many letters as the base")
        if images[0][0] != 0:
            raise BadMorphism("the image of 0 does not begin with 0")
        if not are_outputs(coding, len(images)):
            raise BadMorphism("the coding is not an integer from 0 to 9 for each letter")
        self.base = base
        self.images = copied_rows(images)
        self.coding = tuple(coding)

    def word(self, times):
        """Returns the word that comes from (0,) by replacing all letters so many times."""
        word = (0,)
        for _ in range(times):
            if len(word) * self.base > LONGEST_WORD:
                raise TooMany("the word has more than 100000 letters")
            word = tuple([letter for before in word for letter in self.images[before]])
        return word


def morphic(morphism):
    """Returns the sequence of the codings of the endless word; its states are the letters."""
    return Sequence(morphism.base, morphism.images, morphism.coding)


def morphism_of(sequence):
    """Returns the morphism of the least sequence; its letters are the states."""
    small = least_sequence(sequence)
    return Morphism(small.base, small.rows, small.outputs)
