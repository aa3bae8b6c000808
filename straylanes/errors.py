"""The errors of the package, all of them directly under LaneError."""


class LaneError(ValueError):
    """What each error of this package is."""


class Unfit(LaneError):
    """What is handed in does not fit what is asked."""


class BadText(LaneError):
    """A value is not the text of what it should be."""


class BadMachine(LaneError):
    """A value is no machine; error is what machine_error tells."""

    def __init__(self, error):
        self.error = error


class BadProgram(LaneError):
    """A value is no program; error is what program_error tells."""

    def __init__(self, error):
        self.error = error


class BadBook(LaneError):
    """A value is no book or guard; error is what book_error or guard_error tells."""

    def __init__(self, error):
        self.error = error


class Clash(LaneError):
    """The rests of the pair lanes fit no integer."""

    def __init__(self, lanes):
        self.lanes = lanes


class Unsure(LaneError):
    """There are several candidates; numbers are the two least ones."""

    def __init__(self, numbers):
        self.numbers = numbers


class Strayed(LaneError):
    """More lanes stray than the book lets."""


class TooMany(LaneError):
    """There are more of something than limit."""

    def __init__(self, limit):
        self.limit = limit


class NoPlan(LaneError):
    """There is no right row of stops."""


class NoLot(LaneError):
    """No lot of the book fits the ledger."""


class NoName(LaneError):
    """The name given is not there."""

    def __init__(self, given):
        self.given = given


class Taken(LaneError):
    """The name given is there already."""

    def __init__(self, given):
        self.given = given


class BadBatch(LaneError):
    """A value is no batch of edits."""


class Rejected(LaneError):
    """The edit of a batch with the place index raised an error."""

    def __init__(self, index):
        self.index = index


class TooManyEdits(LaneError):
    """As many edits stand as may."""


class NothingToUndo(LaneError):
    """No edit stands."""


class NothingToRedo(LaneError):
    """No edit was taken back that is not done again."""


class NoVersion(LaneError):
    """There is no version given."""

    def __init__(self, given):
        self.given = given


class BadLog(LaneError):
    """A log is wrong at the line or edit with the number place."""

    def __init__(self, place):
        self.place = place
