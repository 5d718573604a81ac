"""Lines of texts: numbers that are separated by spaces, and what stands in which line."""

from automatics.errors import BadText


def joined(items):
    """Returns the items of a line with one space between them."""
    return " ".join([str(item) for item in items])


def text_of(lines):
    """Returns the text that consists of these lines."""
    return "".join([line + "\n" for line in lines])


def whole_lines(text):
    """Returns the lines of a text that end with a newline, and what stands behind the last one."""
    lines = text.split("\n")
    return lines[:-1], lines[-1]


def read_line(whole, at, reader):
    """Returns what the reader makes of a line; raises BadText if this is None, or if there is no such line."""
    told = reader(whole[at]) if at < len(whole) else None
    if told is None:
        raise BadText(at + 1)
    return told


def check_end(whole, rest, count):
    """Raises BadText if something stands behind so many lines."""
    if len(whole) > count or rest != "":
        raise BadText(count + 1)


def numbers_below(count):
    """Returns the numbers below a count by the words that write them."""
    return {str(number): number for number in range(count)}


def read_numbers(words, numbers):
    """Returns the list of the numbers that the words write, or None if one of them writes none of these."""
    if not all([word in numbers for word in words]):
        return None
    return [numbers[word] for word in words]
