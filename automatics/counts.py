"""How many words of a length are accepted."""

from automatics.automaton import accepting_flags
from automatics.paths import leading_to

STRIDE = 50


class Counts:
    """For each length and each state the number of words that lead from it to accepting states.

    Only each fiftieth list is kept for good: all together may be too much to
    hold, and from the one before the others are found again.
    """

    def __init__(self, automaton):
        useful = leading_to(automaton.rows, automaton.accepting)
        self.steps = [_step(row, useful) for row in automaton.rows]
        self.marks = [[1 if flag else 0 for flag in accepting_flags(automaton)]]
        self.begin = 0
        self.stretch = [self.marks[0]]

    def of_length(self, length):
        """Returns for each state the number of words of this length."""
        place, more = divmod(length, STRIDE)
        while len(self.marks) <= place:
            self.go_to(len(self.marks) - 1, STRIDE)
            self.marks.append(self.stretch[STRIDE])
        self.go_to(place, more)
        return self.stretch[more]

    def go_to(self, place, more):
        """Makes the stretch behind a mark at least so long."""
        if self.begin != place:
            self.begin = place
            self.stretch = [self.marks[place]]
        while len(self.stretch) <= more:
            last = self.stretch[-1]
            self.stretch.append([sum([last[target] * many for target, many in step]) for step in self.steps])


def _step(row, useful):
    """Returns the pairs of a state from which accepting ones can be reached, and how many letters lead to it."""
    many = {}
    for target in row:
        if useful[target]:
            many[target] = many.get(target, 0) + 1
    return list(many.items())
