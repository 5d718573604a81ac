"""Texts of automata."""

from automatics.automaton import Automaton, GREATEST_BASE, LEAST_BASE, MOST_STATES, MOST_TRACKS, letter_count
from automatics.errors import BadText


def automaton_text(automaton):
    """Returns the text of an automaton."""
    lines = [f"automaton {automaton.base} {automaton.tracks} {automaton.size}"]
    lines.append(_joined(["accepts", *automaton.accepting]))
    lines.extend([_joined(row) for row in automaton.rows])
    return "".join([line + "\n" for line in lines])


def automaton_of(text):
    """Returns the automaton whose text this is; raises BadText with the first wrong line."""
    # What stands behind the last newline is no whole line.
    lines = text.split("\n")
    whole = lines[:-1]
    base, tracks, size = _line(whole, 0, _head)
    numbers = _numbers(size)
    accepting = _line(whole, 1, lambda line: _accepting(line, numbers))
    width = letter_count(base, tracks)
    rows = []
    for at in range(2, size + 2):
        rows.append(_line(whole, at, lambda line: _row(line, numbers, width)))
    if len(whole) > size + 2 or lines[-1] != "":
        raise BadText(size + 3)
    return Automaton(base, tracks, rows, accepting)


def _joined(items):
    return " ".join([str(item) for item in items])


def _line(whole, at, reader):
    """Returns what the reader makes of a line; it makes None of a wrong one."""
    told = reader(whole[at]) if at < len(whole) else None
    if told is None:
        raise BadText(at + 1)
    return told


def _numbers(count):
    """Returns the numbers below a count by the words that write them."""
    return {str(number): number for number in range(count)}


def _read(words, numbers):
    """Returns the numbers that the words write, or None if one of them writes none of these."""
    if not all([word in numbers for word in words]):
        return None
    return [numbers[word] for word in words]


def _head(line):
    words = line.split(" ")
    told = _read(words[1:], _numbers(MOST_STATES + 1))
    if words[0] != "automaton" or told is None or len(told) != 3:
        return None
    base, tracks, size = told
    if LEAST_BASE <= base <= GREATEST_BASE and tracks <= MOST_TRACKS and size >= 1:
        return told
    return None


def _accepting(line, numbers):
    words = line.split(" ")
    told = _read(words[1:], numbers)
    if words[0] != "accepts" or told is None or told != sorted(set(told)):
        return None
    return told


def _row(line, numbers, width):
    words = line.split(" ")
    return _read(words, numbers) if len(words) == width else None
