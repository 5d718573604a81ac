"""What counts as an integer, as a number and as a base."""

LEAST_BASE = 2
GREATEST_BASE = 4


def is_integer(value):
    """Returns whether a value of any kind is an integer; True and False are none."""
    return isinstance(value, int) and not isinstance(value, bool)


def is_number(value):
    """Returns whether a value of any kind is an integer from 0 on."""
    return is_integer(value) and value >= 0


def in_bounds(value, low, high):
    """Returns whether a value of any kind is an integer from low to high."""
    return is_integer(value) and low <= value <= high


def all_in_bounds(values, low, high):
    """Returns whether all values, of any kind, are integers from low to high."""
    # Written out, as there may be millions of them.
    return all([isinstance(value, int) and not isinstance(value, bool) and low <= value <= high for value in values])


def is_base(value):
    """Returns whether a value of any kind is a base."""
    return in_bounds(value, LEAST_BASE, GREATEST_BASE)
