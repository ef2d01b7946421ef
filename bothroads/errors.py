"""The errors that functions of this package raise."""


class NoPlace(LookupError):
    """What is asked for, a letter or a number, is not there."""

    def __init__(self, place):
        self.place = place


class BadLine(ValueError):
    """A line of a text, counted from 1, can not stand there."""

    def __init__(self, line):
        self.line = line


class CanNot(ValueError):
    """There is nothing such as is asked for."""


class TooMuch(ValueError):
    """There are more things to go through than the document lets."""


class Unfit(ValueError):
    """Values that are passed together do not go together, or one is not what it must be."""
