"""The errors of the package."""


class TownError(ValueError):
    """The base class of all errors of the package."""


class BadTown(TownError):
    """A value is no town; part is "whole", "people" or "clubs"."""

    def __init__(self, part):
        self.part = part


class BadRule(TownError):
    """A value is no rule, or not one that the function takes."""


class BadClub(TownError):
    """A value is no club of the town's people."""


class BadNumber(TownError):
    """A value is no number of people that the function takes."""


class BreaksRule(TownError):
    """A town does not keep the rule."""


class NoClub(TownError):
    """A club cannot be added."""


class NoStep(TownError):
    """There is no club to take back."""


class BadText(TownError):
    """A value is no text."""


class BadLine(TownError):
    """A text is wrong at a line and a word, both counted from 1."""

    def __init__(self, line, word):
        self.line = line
        self.word = word
