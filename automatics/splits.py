"""Words that part the states of an automaton from each other."""


class Splits:
    """A tree: the states of a leaf were not parted yet, those below another node are parted by its word.

    Each node but the first one is on the side True or False of the node above:
    the word of that node leads from its states to accepting states, or to others.
    """

    def __init__(self, rows):
        # Letters that lead everywhere to the same states part nothing that one of them does not.
        self.columns = {}
        for number, column in enumerate(zip(*rows)):
            self.columns.setdefault(column, number)
        self.above = [None]
        self.depths = [0]
        self.sides = [None]
        self.words = [None]
        self.members = [list(range(len(rows)))]
        self.leaf_of = [0] * len(rows)

    def cut(self, leaf, word, flags):
        """Parts the states of a leaf by a word, which has a flag for each of them, into two; returns these."""
        self.words[leaf] = word
        parts = {True: [], False: []}
        for state, flag in zip(self.members[leaf], flags):
            parts[flag].append(state)
        for side, states in parts.items():
            for state in states:
                self.leaf_of[state] = len(self.above)
            self.above.append(leaf)
            self.depths.append(self.depths[leaf] + 1)
            self.sides.append(side)
            self.words.append(None)
            self.members.append(states)
        return [len(self.above) - 2, len(self.above) - 1]

    def parted(self, leaf):
        """Returns the leaves into which a letter parts a leaf, or the leaf itself if none does so far."""
        states = self.members[leaf]
        for column, number in self.columns.items():
            leaves = list({self.leaf_of[column[state]]: True for state in states})
            if len(leaves) > 1:
                node = self.meeting(leaves)
                sides = {other: self.side_below(other, node) for other in leaves}
                flags = [sides[self.leaf_of[column[state]]] for state in states]
                return self.cut(leaf, (number,) + self.words[node], flags)
        return [leaf]

    def meeting(self, leaves):
        """Returns the lowest node that is above all of some leaves."""
        node = leaves[0]
        for other in leaves[1:]:
            while node != other:
                if self.depths[node] < self.depths[other]:
                    other = self.above[other]
                else:
                    node = self.above[node]
        return node

    def side_below(self, leaf, node):
        """Returns on which side of a node a leaf below it is."""
        while self.above[leaf] != node:
            leaf = self.above[leaf]
        return self.sides[leaf]


def parting_words(rows, flags):
    """Returns a list of words, as tuples of numbers of letters, so that one of them parts each two states.

    No two states may be alike: then there is a letter that parts one of the
    leaves, as long as there is a leaf with several states.
    """
    splits = Splits(rows)
    pending = splits.cut(0, (), flags) if len(rows) > 1 else []
    while len(pending) > 0:
        wide = [leaf for leaf in pending if len(splits.members[leaf]) > 1]
        pending = [part for leaf in wide for part in splits.parted(leaf)]
    return list({word: True for word in splits.words if word is not None})
