"""Finding everything that letters lead to."""

from automatics.errors import TooMany


def explored(start, steps, limit):
    """Returns the pair (rows, found) of what is reached from a start.

    `steps` returns the list of the items to which the letters lead from an
    item. `found` has the items in the order of the first words that lead to
    them, and `rows` for each of them the numbers of those to which the letters
    lead. Raises TooMany if there are more items than the limit.
    """
    numbers = {start: 0}
    found = [start]
    rows = []
    while len(rows) < len(found):
        row = []
        for item in steps(found[len(rows)]):
            if item not in numbers:
                if len(found) == limit:
                    raise TooMany(f"more than {limit} of them are reached")
                numbers[item] = len(found)
                found.append(item)
            row.append(numbers[item])
        rows.append(row)
    return rows, found
