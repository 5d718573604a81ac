"""Numbers as words of digits."""

from automatics.errors import BadWord


def digits_of(number, base):
    """Returns the tuple of the digits of a number, without zeros in front."""
    # Halving is much faster for long numbers than taking off one digit after the other.
    powers = [base]
    while powers[-1] <= number:
        powers.append(powers[-1] * powers[-1])
    parts = [number]
    for power in powers[::-1]:
        parts = [piece for part in parts for piece in divmod(part, power)]
    front = 0
    while front < len(parts) and parts[front] == 0:
        front += 1
    return tuple(parts[front:])


def number_of(digits, base):
    """Returns the number with these digits."""
    parts = list(digits)
    power = base
    while len(parts) > 1:
        if len(parts) % 2 == 1:
            parts = [0] + parts
        parts = [parts[at] * power + parts[at + 1] for at in range(0, len(parts), 2)]
        power = power * power
    return parts[0] if parts else 0


def word_of(numbers, base):
    """Returns the shortest word that writes a tuple of numbers."""
    rows = [digits_of(number, base) for number in numbers]
    length = max([len(row) for row in rows], default=0)
    filled = [(0,) * (length - len(row)) + row for row in rows]
    return tuple(zip(*filled))


def numbers_of(word, tracks, base):
    """Returns the tuple of the numbers that a word writes."""
    return tuple([number_of([letter[track] for letter in word], base) for track in range(tracks)])


def takes(automaton, numbers):
    """Returns whether an automaton accepts the shortest word of a tuple of numbers."""
    if len(numbers) != automaton.tracks:
        raise BadWord("there are not as many numbers as tracks")
    return automaton.accepts(word_of(numbers, automaton.base))
