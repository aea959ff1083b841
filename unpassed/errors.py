"""All errors that the package raises, each directly under RingError."""


class RingError(ValueError):
    """What all errors of the package are."""


class Unfit(RingError):
    """What was handed in does not do here."""


class BadText(RingError):
    """A string, or another value, is the string of nothing that was asked for."""


class BadTable(RingError):
    """A value is no table: error is what table_error tells of it."""

    def __init__(self, error):
        self.error = error


class NoLetter(RingError):
    """given is no letter that may stand here."""

    def __init__(self, given):
        self.given = given


class NoState(RingError):
    """given is no state of the table."""

    def __init__(self, given):
        self.given = given


class Short(RingError):
    """The bits do not last: done letters were read whole."""

    def __init__(self, done):
        self.done = done


class TooMany(RingError):
    """There is more than limit of something."""

    def __init__(self, limit):
        self.limit = limit


class Endless(RingError):
    """There is no greatest excess, as the round paper shows."""

    def __init__(self, paper):
        self.paper = paper


class NoName(RingError):
    """given is no name that is kept."""

    def __init__(self, given):
        self.given = given


class BadBatch(RingError):
    """A value is no batch of edits."""


class Rejected(RingError):
    """The edit with the place index raised an error."""

    def __init__(self, index):
        self.index = index


class TooManyEdits(RingError):
    """As many edits stand as may."""


class NothingToUndo(RingError):
    """No edit stands."""


class NothingToRedo(RingError):
    """No edit was taken back that could be done again."""


class NoVersion(RingError):
    """given is no version of the bench."""

    def __init__(self, given):
        self.given = given
