"""Texts of sequences."""

from automatics.errors import BadText, NotSteady
from automatics.integers import is_base
from automatics.lines import check_end, joined, numbers_below, read_line, read_numbers, text_of, whole_lines
from automatics.sequence import MOST_STATES, Sequence
from automatics.tables import GREATEST_OUTPUT


def sequence_text(sequence):
    """Returns the text of a sequence."""
    lines = [f"sequence {sequence.base} {sequence.size()}"]
    lines.extend([joined([output, *row]) for output, row in zip(sequence.outputs, sequence.rows)])
    return text_of(lines)


def sequence_of(text):
    """Returns the sequence whose text this is; raises BadText with the first wrong line, or 0."""
    whole, rest = whole_lines(text)
    base, size = read_line(whole, 0, _head)
    numbers = numbers_below(max(size, GREATEST_OUTPUT + 1))
    states = []
    for at in range(1, size + 1):
        states.append(read_line(whole, at, lambda line: _state(line, numbers, base, size)))
    check_end(whole, rest, size + 1)
    rows = [state[1:] for state in states]
    outputs = [state[0] for state in states]
    try:
        return Sequence(base, rows, outputs)
    except NotSteady:
        raise BadText(0) from None


def _head(line):
    words = line.split(" ")
    told = read_numbers(words[1:], numbers_below(MOST_STATES + 1))
    if words[0] != "sequence" or told is None or len(told) != 2:
        return None
    return told if is_base(told[0]) and told[1] >= 1 else None


def _state(line, numbers, base, size):
    """Returns the list of the output of a state and the states to which its digits lead."""
    told = read_numbers(line.split(" "), numbers)
    if told is None or len(told) != base + 1:
        return None
    return told if told[0] <= GREATEST_OUTPUT and max(told[1:]) < size else None
