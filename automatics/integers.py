"""What counts as an integer."""


def in_bounds(value, low, high):
    """Returns whether a value of any kind is an integer from low to high; True and False are none."""
    return isinstance(value, int) and not isinstance(value, bool) and low <= value <= high
