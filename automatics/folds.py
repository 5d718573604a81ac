"""Folding the states that are alike, and leaving out those to which no word leads."""

from automatics.explore import explored
from automatics.partition import alike_classes


def fold_of(rows, marks):
    """Returns for each state its number once alike states are one, or None if no word leads to it.

    States are alike if the same words lead from them to states with the same
    marks. The numbers are in the order of the first words that lead to them.
    """
    reached, found = explored(0, lambda state: rows[state], len(rows))
    classes = alike_classes(reached, [marks[state] for state in found])
    numbers = {}
    fold = [None] * len(rows)
    for at, state in enumerate(found):
        fold[state] = numbers.setdefault(classes[at], len(numbers))
    return fold


def first_folded(fold):
    """Returns for each number of a fold the first state that is folded to it."""
    firsts = {}
    for state, number in enumerate(fold):
        if number is not None:
            firsts.setdefault(number, state)
    return [firsts[number] for number in range(len(firsts))]
