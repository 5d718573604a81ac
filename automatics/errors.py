"""All errors that the program raises."""


class AutomaticError(ValueError):
    """The base class of the errors of the program."""


class BadAutomaton(AutomaticError):
    """Something is no automaton, or no part or argument of one."""


class BadWord(AutomaticError):
    """Something is no letter or no word for an automaton."""


class TooMany(AutomaticError):
    """More states, pairs or sets came up than are allowed."""


class BadText(AutomaticError):
    """A text is not the text of such a thing; `line` tells where."""

    def __init__(self, line):
        super().__init__(f"line {line} cannot stand there")
        self.line = line


class BadSequence(AutomaticError):
    """Something is no sequence, or no argument for one."""


class NotSteady(AutomaticError):
    """Zeros in front matter where they must not."""


class BadMorphism(AutomaticError):
    """Something is no morphism."""


class OtherBase(AutomaticError):
    """Two things that are put together have unlike bases."""


class BadValues(AutomaticError):
    """A variable has no value, or a name no sequence."""


class Captured(AutomaticError):
    """A variable would be bound after it is renamed."""


class TooGreat(AutomaticError):
    """A constant of a term would be too great."""


class BadFormula(AutomaticError):
    """A text is not the text of a formula; `at` tells where."""

    def __init__(self, at):
        super().__init__(f"no formula goes on like this behind {at} characters")
        self.at = at


class TooWide(AutomaticError):
    """A formula has too many free variables."""


class BadLinear(AutomaticError):
    """Something does not tell numbers by matrices."""


class Endless(AutomaticError):
    """There are infinitely many of what is counted."""
