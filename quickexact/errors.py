"""The errors that the package raises."""

from quickexact.things import with_tuples


class Known(ValueError):
    """There is a loop or a place of this name already."""

    def __init__(self, name):
        ValueError.__init__(self, f"there is one of this name: {name}")
        self.name = with_tuples(name)


class Used(ValueError):
    """The loop of this name is in the terms of a place."""

    def __init__(self, name):
        ValueError.__init__(self, f"in use: {name}")
        self.name = with_tuples(name)


class Unfit(ValueError):
    """What is passed does not fit, or there is no room for it."""


class BadText(ValueError):
    """The text is the text of nothing that it could tell."""


class BadLine(ValueError):
    """The line with this number, counted from 0, is no request."""

    def __init__(self, number):
        ValueError.__init__(self, f"no request in line {number}")
        self.number = with_tuples(number)


class NoCounter(LookupError):
    """There is no counter with this number."""

    def __init__(self, place):
        LookupError.__init__(self, f"no counter {place}")
        self.place = with_tuples(place)


class NoLoop(LookupError):
    """There is no loop of this name."""

    def __init__(self, name):
        LookupError.__init__(self, f"no loop {name}")
        self.name = with_tuples(name)


class NoPlace(LookupError):
    """There is no place of this name."""

    def __init__(self, name):
        LookupError.__init__(self, f"no place {name}")
        self.name = with_tuples(name)


class NothingDone(LookupError):
    """There is no deed that can be taken back."""
