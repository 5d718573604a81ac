"""Which states are alike: classes of states, split as long as they must be."""


class Partition:
    """The states of an automaton in classes; at first there is one class."""

    def __init__(self, size):
        self.class_of = [0] * size
        self.members = [{state: True for state in range(size)}]

    def divide(self, old, parts):
        """Parts a class into the given parts and the rest; returns the parts that left it.

        The greatest of all stays in the class and is not even looked at if it
        is the rest: so a state leaves its class only if it comes to one of at
        most half the size, and this happens seldom.
        """
        sizes = [len(part) for part in parts]
        greatest = max(sizes, default=0)
        left = len(self.members[old]) - sum(sizes)
        leaving = list(parts)
        if left < greatest:
            del leaving[sizes.index(greatest)]
            if left > 0:
                leaving.append(self._rest(old, parts))
        for part in leaving:
            self._move(old, part)
        return leaving

    def _rest(self, old, parts):
        taken = {state: True for part in parts for state in part}
        return [state for state in self.members[old] if state not in taken]

    def _move(self, old, part):
        for state in part:
            del self.members[old][state]
            self.class_of[state] = len(self.members)
        self.members.append({state: True for state in part})


def alike_classes(rows, marks):
    """Returns a list with a class for each state; alike states, from which words lead to equal marks, have the same."""
    sources = _sources(rows)
    partition = Partition(len(rows))
    pending = partition.divide(0, _marked(marks))
    # Once every state has a class of its own, nothing is left to part.
    while pending and len(partition.members) < len(rows):
        hits = _hits(pending.pop(), sources)
        groups = _grouped(hits, partition.class_of)
        for old in list(groups):
            pending.extend(partition.divide(old, list(groups[old].values())))
    return partition.class_of


def _marked(marks):
    """Returns for each mark the list of its states."""
    parts = {}
    for state, mark in enumerate(marks):
        parts.setdefault(mark, []).append(state)
    return list(parts.values())


def _sources(rows):
    """Returns for each state two lists: the states that lead to it, and by which letters."""
    sources = [([], []) for _ in rows]
    states = list(range(len(rows)))
    # Letters that lead everywhere to the same states part nothing that one of them does not.
    columns = list({column: True for column in zip(*rows)})
    for letter, column in enumerate(columns):
        for state, target in zip(states, column):
            sources[target][0].append(state)
            sources[target][1].append(letter)
    return sources


def _hits(part, sources):
    """Returns for each state that leads into the part the list of the letters by which it does."""
    hits = {}
    for target in part:
        befores, through = sources[target]
        for state, letter in zip(befores, through):
            hits.setdefault(state, []).append(letter)
    return hits


def _grouped(hits, class_of):
    """Returns for each class the lists of those of its states that have the same letters."""
    groups = {}
    for state, through in hits.items():
        parts = groups.setdefault(class_of[state], {})
        parts.setdefault(tuple(sorted(through)), []).append(state)
    return groups
