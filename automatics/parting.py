"""The first path that parts two machines.

A machine is a triple (rows, marks, start): its states have marks, and a path,
which is a list of the numbers of letters, leads from its start to a state.
"""


class Groups:
    """States that were joined, one with another; each group has a leader."""

    def __init__(self, size):
        self.above = list(range(size))

    def leader(self, state):
        """Returns the leader of the group of a state."""
        while self.above[state] != state:
            self.above[state] = self.above[self.above[state]]
            state = self.above[state]
        return state

    def unite(self, one, other):
        """Joins the groups of two states; returns whether they were different ones."""
        first = self.leader(one)
        second = self.leader(other)
        self.above[second] = first
        return first != second


def parting_path(first, second):
    """Returns the first path that leads to unlike marks in two machines, or None.

    Pairs of states are looked at in the order of the paths that lead to them.
    A pair is left out if earlier pairs join its states: a path that parts it
    parts one of those, and this gives an earlier path.
    """
    first_rows, first_marks, first_start = first
    second_rows, second_marks, second_start = second
    size = len(first_rows)
    groups = Groups(size + len(second_rows))
    groups.unite(first_start, size + second_start)
    trail = [(first_start, second_start, None, None)]
    at = 0
    while at < len(trail):
        one, other = trail[at][:2]
        if first_marks[one] != second_marks[other]:
            return _path_to(trail, at)
        for number, (below, beside) in enumerate(zip(first_rows[one], second_rows[other])):
            if groups.unite(below, size + beside):
                trail.append((below, beside, at, number))
        at += 1
    return None


def _path_to(trail, at):
    """Returns the path that leads to a place of the trail, whose items tell where they came from."""
    path = []
    while at > 0:
        at, number = trail[at][2:]
        path.append(number)
    return path[::-1]
