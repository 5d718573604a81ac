"""Rows of integers, and whether a row is a sum of multiples of others."""

from math import gcd


class Span:
    """Rows none of which is a sum of multiples of others, changed so that each has a place where later ones have 0."""

    def __init__(self):
        self.kept = []

    def takes(self, row):
        """Adds a row and returns True, or returns False if it is a sum of multiples of rows that were added."""
        rest = list(row)
        for place, other in self.kept:
            if rest[place] != 0:
                rest = _cleared(rest, other, place)
        places = [at for at, number in enumerate(rest) if number != 0]
        if len(places) == 0:
            return False
        self.kept.append((places[0], rest))
        return True


def _cleared(row, other, place):
    """Returns a multiple of a row less one of another row, with 0 at a place, and no greater than it must be."""
    common = gcd(row[place], other[place])
    factor = other[place] // common
    other_factor = row[place] // common
    found = [factor * one - other_factor * two for one, two in zip(row, other)]
    divisor = 0
    for number in found:
        divisor = gcd(divisor, number)
        if divisor == 1:
            return found
    return [number // divisor for number in found] if divisor > 1 else found
