"""Texts of automata."""

from automatics.automaton import Automaton, MOST_STATES, MOST_TRACKS, letter_count
from automatics.integers import is_base
from automatics.lines import check_end, joined, numbers_below, read_line, read_numbers, text_of, whole_lines


def automaton_text(automaton):
    """Returns the text of an automaton."""
    lines = [f"automaton {automaton.base} {automaton.tracks} {automaton.size}"]
    lines.append(joined(["accepts", *automaton.accepting]))
    lines.extend([joined(row) for row in automaton.rows])
    return text_of(lines)


def automaton_of(text):
    """Returns the automaton whose text this is; raises BadText with the first wrong line."""
    whole, rest = whole_lines(text)
    base, tracks, size = read_line(whole, 0, _head)
    numbers = numbers_below(size)
    accepting = read_line(whole, 1, lambda line: _accepting(line, numbers))
    width = letter_count(base, tracks)
    rows = []
    for at in range(2, size + 2):
        rows.append(read_line(whole, at, lambda line: _row(line, numbers, width)))
    check_end(whole, rest, size + 2)
    return Automaton(base, tracks, rows, accepting)


def _head(line):
    words = line.split(" ")
    told = read_numbers(words[1:], numbers_below(MOST_STATES + 1))
    if words[0] != "automaton" or told is None or len(told) != 3:
        return None
    base, tracks, size = told
    if is_base(base) and tracks <= MOST_TRACKS and size >= 1:
        return told
    return None


def _accepting(line, numbers):
    words = line.split(" ")
    told = read_numbers(words[1:], numbers)
    if words[0] != "accepts" or told is None or told != sorted(set(told)):
        return None
    return told


def _row(line, numbers, width):
    words = line.split(" ")
    return read_numbers(words, numbers) if len(words) == width else None
