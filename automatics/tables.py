"""The lists from which sequences and morphisms are made."""

from automatics.integers import all_in_bounds, in_bounds

GREATEST_OUTPUT = 9


def is_output(value):
    """Returns whether a value of any kind is an output."""
    return in_bounds(value, 0, GREATEST_OUTPUT)


def are_rows(value, width, most):
    """Returns whether a value holds from 1 to so many rows of the given width, each of numbers of rows."""
    if not isinstance(value, (list, tuple)) or not 1 <= len(value) <= most:
        return False
    return all([_is_row(row, width, len(value)) for row in value])


def are_outputs(value, count):
    """Returns whether a value holds so many outputs."""
    if not isinstance(value, (list, tuple)) or len(value) != count:
        return False
    return all_in_bounds(value, 0, GREATEST_OUTPUT)


def copied_rows(rows):
    """Returns the rows as a tuple of tuples."""
    return tuple([tuple(row) for row in rows])


def _is_row(value, width, count):
    if not isinstance(value, (list, tuple)) or len(value) != width:
        return False
    return all_in_bounds(value, 0, count - 1)
