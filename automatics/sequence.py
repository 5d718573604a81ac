"""Sequences, whose members are told by states that the digits of the numbers lead to."""

from automatics.digits import digits_of, number_of
from automatics.errors import BadSequence, NotSteady, OtherBase
from automatics.folds import first_folded, fold_of
from automatics.integers import is_base
from automatics.parting import parting_path
from automatics.tables import are_outputs, are_rows, copied_rows

MOST_STATES = 2000


class Sequence:
    """States with outputs, and the digits that lead from one to another; it begins in state 0."""

    def __init__(self, base, rows, outputs):
        if not is_base(base):
            raise BadSequence("the base is not an integer from 2 to 4")
        if not are_rows(rows, base, MOST_STATES):
            raise BadSequence("the rows are not from 1 to 2000 with a state for each digit")
        if not are_outputs(outputs, len(rows)):
            raise BadSequence("the outputs are not an integer from 0 to 9 for each state")
        self.base = base
        self.rows = copied_rows(rows)
        self.outputs = tuple(outputs)
        if _zeros_matter(self.rows, self.outputs):
            raise NotSteady("zeros in front change an output")

    def size(self):
        """Returns the number of states."""
        return len(self.rows)

    def state(self, n):
        """Returns the state to which the digits of a number lead."""
        state = 0
        for digit in digits_of(n, self.base):
            state = self.rows[state][digit]
        return state

    def at(self, n):
        """Returns the member with the number n."""
        return self.outputs[self.state(n)]

    def first(self, count):
        """Returns the list of the members 0 to count - 1."""
        # The digits of n are those of n // base and one more; 0 has none.
        states = [0]
        for n in range(1, count):
            states.append(self.rows[states[n // self.base]][n % self.base])
        return [self.outputs[state] for state in states[:count]]


def least_sequence(sequence):
    """Returns the sequence with the same members and the fewest states."""
    fold = fold_of(sequence.rows, sequence.outputs)
    firsts = first_folded(fold)
    rows = [[fold[target] for target in sequence.rows[state]] for state in firsts]
    return Sequence(sequence.base, rows, [sequence.outputs[state] for state in firsts])


def same(first, second):
    """Returns whether two sequences have the same members."""
    return differing(first, second) is None


def differing(first, second):
    """Returns the least number at which the members of two sequences differ, or None."""
    check_bases_agree(first, second)
    path = parting_path((first.rows, first.outputs, 0), (second.rows, second.outputs, 0))
    # The first path has no zeros in front: without them it would part, too, and be shorter.
    return None if path is None else number_of(path, first.base)


def check_bases_agree(first, second):
    """Raises OtherBase if the bases of two sequences are unlike."""
    if first.base != second.base:
        raise OtherBase("the bases of the sequences are unlike")


def _zeros_matter(rows, outputs):
    start = rows[0][0]
    return start != 0 and parting_path((rows, outputs, 0), (rows, outputs, start)) is not None
