"""Numbers told by matrices."""

from automatics.automaton import letters
from automatics.digits import digits_of
from automatics.errors import BadAutomaton, BadLinear, Endless, OtherBase, TooMany
from automatics.integers import in_bounds, is_base, is_integer
from automatics.paths import leading_to, peeled, reached_from
from automatics.span import Span
from automatics.steady import steady_least

MOST_ITEMS = 300


class Linear:
    """A row of integers, a matrix for each digit, and a column; their product by the digits of x is the value for x."""

    def __init__(self, base, first, matrices, last):
        if not is_base(base):
            raise BadLinear("the base is not an integer from 2 to 4")
        if not isinstance(first, tuple) or len(first) > MOST_ITEMS or not _are_integers(first, len(first)):
            raise BadLinear("the first row is not a tuple of at most 300 integers")
        if not _are_matrices(matrices, base, len(first)):
            raise BadLinear("the matrices are not a tuple of a square one for each digit")
        if not _are_integers(last, len(first)):
            raise BadLinear("the last column is not a tuple of as many integers")
        self.base = base
        self.first = first
        self.matrices = matrices
        self.last = last
        self.links = [[_links(row) for row in matrix] for matrix in matrices]
        if self.behind(first, 0) != list(first):
            raise BadLinear("zeros in front matter")

    def size(self):
        """Returns the number of items of the row."""
        return len(self.first)

    def value(self, x):
        """Returns the value for a number."""
        row = self.first
        for digit in digits_of(x, self.base):
            row = self.behind(row, digit)
        return self.ended(row)

    def values(self, count):
        """Returns the list of the values for 0 to count - 1."""
        # The last digit of each number is put to the column, so only the rows of shorter numbers are needed.
        rows = [self.first]
        for x in range(1, (count - 1) // self.base + 1):
            rows.append(self.behind(rows[x // self.base], x % self.base))
        columns = [[_product(row, self.last) for row in matrix] for matrix in self.matrices]
        return [_product(rows[x // self.base], columns[x % self.base]) for x in range(count)]

    def behind(self, row, digit):
        """Returns the product of a row and the matrix of a digit."""
        found = [0] * len(row)
        for number, links in zip(row, self.links[digit]):
            if number != 0:
                for place, factor in links:
                    found[place] += number * factor
        return found

    def ended(self, row):
        """Returns the product of a row and the last column."""
        return _product(row, self.last)


def counting(automaton, track):
    """Returns the Linear that tells for each number how many told rows have it on a track."""
    small = steady_least(automaton)
    if not in_bounds(track, 0, small.tracks - 1):
        raise BadAutomaton("there is no such track")
    useful = leading_to(small.rows, small.accepting)
    groups = _letters_by_digit(small, track)
    ways = _ways_by_zeros(small, groups[0], useful)
    states = [state for state in range(small.size) if useful[state]]
    if len(states) > MOST_ITEMS:
        raise TooMany("more than 300 states are needed")
    places = {state: at for at, state in enumerate(states)}
    matrices = [tuple([_numbers_led(small.rows[state], group, places) for state in states]) for group in groups]
    ends = {state: True for state in small.accepting}
    last = [1 if state in ends else 0 for state in states]
    return Linear(small.base, tuple([ways[state] for state in states]), tuple(matrices), tuple(last))


def added(first, second):
    """Returns a Linear that tells the sums of the values of two."""
    _check_bases(first, second)
    size, other_size = first.size(), second.size()
    _check_size(size + other_size)
    matrices = []
    for one, other in zip(first.matrices, second.matrices):
        above = [row + (0,) * other_size for row in one]
        below = [(0,) * size + row for row in other]
        matrices.append(tuple(above + below))
    return Linear(first.base, first.first + second.first, tuple(matrices), first.last + second.last)


def scaled(linear, factor):
    """Returns a Linear that tells the values times an integer."""
    return Linear(linear.base, linear.first, linear.matrices, tuple([factor * number for number in linear.last]))


def summed(linear):
    """Returns a Linear that tells for each number the sum of the values for all numbers less than it."""
    size = linear.size()
    _check_size(2 * size)
    # Beside the row for x stands the sum of the rows for the numbers below x. If a digit is read, these go on with all
    # digits, and x itself with the smaller ones.
    zeros = (0,) * size
    before = [zeros] * size
    begun = []
    for matrix in linear.matrices:
        begun.append([row + beside for row, beside in zip(matrix, before)])
        before = [_sum_of_rows(one, other) for one, other in zip(before, matrix)]
    below = [zeros + row for row in before]
    matrices = tuple([tuple(above + below) for above in begun])
    return Linear(linear.base, linear.first + zeros, matrices, zeros + linear.last)


def same_values(first, second):
    """Returns whether two have the same values for all numbers."""
    return parting_number(first, second) is None


def parting_number(first, second):
    """Returns the least number for which two have unlike values, or None."""
    _check_bases(first, second)
    span = Span()
    pending = [(0, first.first, second.first)]
    at = 0
    while at < len(pending):
        number, row, other = pending[at]
        if first.ended(row) != second.ended(other):
            return number
        # What follows a sum of multiples of earlier rows is such a sum of what follows these, which comes earlier.
        if span.takes([*row, *other]):
            for digit in range(1 if number == 0 else 0, first.base):
                below = first.base * number + digit
                pending.append((below, first.behind(row, digit), second.behind(other, digit)))
        at += 1
    return None


def _are_integers(value, count):
    return isinstance(value, tuple) and len(value) == count and all([is_integer(item) for item in value])


def _are_matrices(value, base, size):
    if not isinstance(value, tuple) or len(value) != base:
        return False
    return all([_is_matrix(matrix, size) for matrix in value])


def _is_matrix(value, size):
    if not isinstance(value, tuple) or len(value) != size:
        return False
    return all([_are_integers(row, size) for row in value])


def _product(row, column):
    return sum([number * factor for number, factor in zip(row, column)])


def _links(row):
    """Returns the pairs of a place and its item, but for those with 0."""
    return [(place, item) for place, item in enumerate(row) if item != 0]


def _letters_by_digit(automaton, track):
    """Returns for each digit the numbers of the letters with this digit on a track."""
    alphabet = letters(automaton.base, automaton.tracks)
    return [
        [number for number, letter in enumerate(alphabet) if letter[track] == digit]
        for digit in range(automaton.base)]


def _ways_by_zeros(automaton, group, useful):
    """Returns for each useful state how many words of the letters of a group lead to it, not beginning with zeros."""
    rows = [[row[number] for number in group] for row in automaton.rows]
    inside = reached_from(rows, rows[0][1:])
    kept = [one and other for one, other in zip(inside, useful)]
    order = peeled(rows, kept)
    if len(order) < sum(kept):
        raise Endless("there are infinitely many rows for a number")
    ways = [0] * automaton.size
    ways[0] = 1
    for target in rows[0][1:]:
        ways[target] += 1
    for state in order:
        for target in rows[state]:
            ways[target] += ways[state]
    return ways


def _numbers_led(row, group, places):
    """Returns for each place how many letters of a group lead to its state."""
    many = [0] * len(places)
    for number in group:
        if row[number] in places:
            many[places[row[number]]] += 1
    return tuple(many)


def _check_bases(first, second):
    if first.base != second.base:
        raise OtherBase("the bases are unlike")


def _check_size(size):
    if size > MOST_ITEMS:
        raise TooMany("there would be more than 300 items")


def _sum_of_rows(first, second):
    return tuple([one + other for one, other in zip(first, second)])
