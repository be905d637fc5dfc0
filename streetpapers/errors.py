"""All errors that the package raises, each for one kind of failure."""


class WalkError(ValueError):
    """What every error of the package is."""


class BadTable(WalkError):
    """A value is no table."""


class BadFloor(WalkError):
    """A value is no floor: None for the whole value, otherwise the index of the first wrong square."""

    def __init__(self, index):
        self.index = index


class BadWalker(WalkError):
    """A value is no walker."""


class BadNumber(WalkError):
    """A value is no integer within its limits."""


class BadPlace(WalkError):
    """A value is no place."""


class BadPaper(WalkError):
    """A value is no paper, or not one that is right."""


class NoWayBack(WalkError):
    """A walk cannot be taken back."""


class NotTurning(WalkError):
    """A table is not a turning one."""


class Stopped(WalkError):
    """A walk has stopped ahead of a step that was asked for."""


class NotText(WalkError):
    """A value is no string."""


class InvalidText(WalkError):
    """A text tells nothing: the place in it at which that shows."""

    def __init__(self, place):
        self.place = place


class NoPaper(WalkError):
    """A walk is too long to be told without a paper."""


class NothingToUndo(WalkError):
    """There is nothing to take back, or to do again."""


class Unasked(WalkError):
    """A line asks nothing that is known."""


class TooMany(WalkError):
    """There would be more of something than the most that may be."""

    def __init__(self, most):
        self.most = most


class BadGround(WalkError):
    """A value is no ground."""


class BadMachine(WalkError):
    """A value is no machine."""


class BadTape(WalkError):
    """A value is no tape."""


class BadPlan(WalkError):
    """A value is no plan."""


class Endless(WalkError):
    """A plan goes on for ever without a step or a stop."""


class BadLine(WalkError):
    """A plan's text has a word that cannot stand: its line and its number in that line, from 1 on."""

    def __init__(self, line, word):
        self.line = line
        self.word = word
