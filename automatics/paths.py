"""Which states paths lead to, and from which states they come.

Rows tell for each state the states to which one step leads.
"""


def reached_from(rows, starts):
    """Returns for each state whether a path leads to it from one of the starts, which lead to themselves."""
    flags = [False] * len(rows)
    pending = list(starts)
    while len(pending) > 0:
        state = pending.pop()
        if not flags[state]:
            flags[state] = True
            pending.extend(rows[state])
    return flags


def leading_to(rows, ends):
    """Returns for each state whether a path leads from it to one of the ends, which lead to themselves."""
    sources = [[] for _ in rows]
    for state, row in enumerate(rows):
        for target in row:
            sources[target].append(state)
    return reached_from(sources, ends)


def peeled(rows, kept):
    """Returns the list of the kept states to which only finitely many paths of kept states lead.

    Each of them stands behind all kept states that lead to it. So all kept
    states are in the list exactly if no path of them leads round.
    """
    many = [0] * len(rows)
    for state, row in enumerate(rows):
        if kept[state]:
            for target in row:
                many[target] += 1
    found = [state for state, count in enumerate(many) if kept[state] and count == 0]
    at = 0
    while at < len(found):
        for target in rows[found[at]]:
            many[target] -= 1
            if kept[target] and many[target] == 0:
                found.append(target)
        at += 1
    return found
