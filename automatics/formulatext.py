"""Texts of formulas."""

from automatics.errors import BadFormula
from automatics.formula import DEEPEST, GREATEST_CONSTANT, LETTERS, MOST_VARIABLES, term

CAPITALS = "ABCDEFGHIJKLMNOPQRSTUVWXYZ"
DIGITS = "0123456789"
SIGNS = {"and": "&", "or": "|"}
WORDS = {" & ": "and", " | ": "or"}
NESTED = ("!(", "(", "some ", "all ")
END = ""


class Reader:
    """A text, and how much of it was read.

    What may stand at a place is told as a list of options, none of which
    begins with another one. What follows a term or a formula is read together
    with it: a space behind a variable may lead to one more summand, too.
    """

    def __init__(self, text):
        self.text = text
        self.done = 0

    def seen(self, options):
        """Returns the option with which the text goes on; END is the end of the text."""
        for option in options:
            if option == END and self.done == len(self.text):
                return option
            if option != END and self.text.startswith(option, self.done):
                return option
        raise BadFormula(self.done + max([self.agreeing(option) for option in options]))

    def agreeing(self, option):
        """Returns how many characters of an option the text goes on with."""
        count = 0
        while count < len(option) and self.text.startswith(option[:count + 1], self.done):
            count += 1
        return count

    def taken(self, options):
        """Reads one of the options and returns it."""
        option = self.seen(options)
        self.done += len(option)
        return option

    def formula(self, deepest, followers):
        """Reads a formula that is nested at most so deep, and one of its followers; returns both."""
        start = self.seen(_beginnings(deepest))
        if start in NESTED:
            return self.nested(deepest - 1), self.taken(followers)
        if start == "true":
            self.taken((start,))
            return (start,), self.taken(followers)
        if start[0] in CAPITALS:
            return self.looked_up(), self.taken(followers)
        first, sign = self.summed((" = ", " < "))
        second, follower = self.summed(followers)
        return (sign.strip(), first, second), follower

    def nested(self, deepest):
        """Reads one of the formulas that hold others, which are nested at most so deep."""
        start = self.taken(NESTED)
        if start == "!(":
            return "not", self.inner(deepest)
        if start == "(":
            first, sign = self.formula(deepest, (" & ", " | "))
            return WORDS[sign], first, self.inner(deepest)
        variable = self.taken([letter + " (" for letter in LETTERS])[0]
        return start.strip(), variable, self.inner(deepest)

    def inner(self, deepest):
        """Reads a formula and the parenthesis behind it, and returns the formula."""
        found, _ = self.formula(deepest, (")",))
        return found

    def looked_up(self):
        """Reads an atom that looks up members."""
        name, index = self.member()
        self.taken((" = ",))
        start = self.seen(["@" + digit for digit in DIGITS] + _names())
        if start[0] == "@":
            self.taken((start,))
            return "is", name, index, int(start[1])
        other, second = self.member()
        return "same", name, index, other, second

    def member(self):
        """Reads a name and an index, and returns both."""
        name = self.taken(_names())[0]
        index, _ = self.summed(("]",))
        return name, index

    def summed(self, followers):
        """Reads a term and one of its followers; returns both."""
        variables = []
        while True:
            sign = self.taken(_summands(variables))
            if sign in DIGITS:
                constant = self.number(int(sign))
                return term(variables, constant), self.taken(followers)
            variables.append(sign)
            follower = self.taken((" + ", *followers))
            if follower in followers:
                return term(variables, 0), follower

    def number(self, begun):
        """Reads the rest of a constant whose first digit was read."""
        for digit in self.text[self.done:self.done + len(str(GREATEST_CONSTANT))]:
            if begun == 0 or digit not in DIGITS or 10 * begun + int(digit) > GREATEST_CONSTANT:
                break
            begun = 10 * begun + int(digit)
            self.done += 1
        return begun


def formula_text(formula):
    """Returns the text of a formula."""
    kind = formula[0]
    if kind == "true":
        return kind
    if kind in ("=", "<"):
        return f"{_term_text(formula[1])} {kind} {_term_text(formula[2])}"
    if kind == "is":
        return f"{_member_text(formula[1], formula[2])} = @{formula[3]}"
    if kind == "same":
        return f"{_member_text(formula[1], formula[2])} = {_member_text(formula[3], formula[4])}"
    if kind == "not":
        return f"!({formula_text(formula[1])})"
    if kind in SIGNS:
        return f"({formula_text(formula[1])} {SIGNS[kind]} {formula_text(formula[2])})"
    return f"{kind} {formula[1]} ({formula_text(formula[2])})"


def formula_of(text):
    """Returns the formula whose text this is; raises BadFormula with the length of the longest right beginning."""
    found, _ = Reader(text).formula(DEEPEST, (END,))
    return found


def _term_text(value):
    _, variables, constant = value
    if len(variables) > 0 and constant == 0:
        return " + ".join(variables)
    return " + ".join([*variables, str(constant)])


def _member_text(name, index):
    return f"{name}[{_term_text(index)}]"


def _names():
    return [capital + "[" for capital in CAPITALS]


def _beginnings(deepest):
    """Returns what a formula that is nested at most so deep can begin with."""
    # The space keeps a variable apart from the words that begin with its letter.
    variables = [letter + " " for letter in LETTERS]
    atoms = ["true"] + variables + _names() + list(DIGITS)
    return atoms + list(NESTED) if deepest > 0 else atoms


def _summands(variables):
    """Returns what can stand behind these variables of a term."""
    if len(variables) == 0:
        return [*LETTERS, *DIGITS]
    # Variables ascend, and a constant of 0 is not written behind them.
    letters = LETTERS[LETTERS.index(variables[-1]):] if len(variables) < MOST_VARIABLES else ""
    return list(letters) + list(DIGITS[1:])
