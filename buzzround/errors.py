"""The errors of the package."""


class RoundError(ValueError):
    """The base of all errors of the package."""


class NoNumber(RoundError):
    """What was given is no number, or one beyond 10 ** 40."""


class NoBase(RoundError):
    """What was given is no base."""


class NoDivisor(RoundError):
    """What was given is no divisor."""


class NoRest(RoundError):
    """What was given is no rest by the divisor."""


class NoFigure(RoundError):
    """What was given is no figure of the base."""


class NoMatch(RoundError):
    """Two things that go together only in one base have unlike bases."""


class TooWide(RoundError):
    """No machine is small enough."""


class NoPlace(RoundError):
    """What was given is no place in an order, or no times."""


class NoPeople(RoundError):
    """What was given is no number of people."""


class NoPerson(RoundError):
    """What was given is none of the people."""


class NoLater(RoundError):
    """A number is not behind the one that it should be behind."""


class NoCounts(RoundError):
    """What was given is no list of numbers of people."""


class NoLevels(RoundError):
    """What was given is no number of levels."""


class TooShort(RoundError):
    """A table has too few levels for a number."""


class NoState(RoundError):
    """What was given is no state of a paper."""


class NoLevel(RoundError):
    """What was given is no level."""


class NoCount(RoundError):
    """What was given does not tell how many numbers are said."""


class NothingToUndo(RoundError):
    """No call or order is left that could be taken back."""


class NoOrder(RoundError):
    """A text is no order."""


class NoName(RoundError):
    """A kind is not known by a name."""


class NoRoom(RoundError):
    """There are six rows already."""


class NoRow(RoundError):
    """A row of rules is wrong, or there is none at an index."""

    def __init__(self, index):
        self.index = index


class NoLook(RoundError):
    """A look is wrong."""

    def __init__(self, index):
        self.index = index


class NoText(RoundError):
    """A row of a text is wrong."""

    def __init__(self, row):
        self.row = row
