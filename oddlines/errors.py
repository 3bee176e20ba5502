"""The errors of the package: all of them stand directly under OddError."""


class OddError(ValueError):
    """Any error that this package raises."""


class Unfit(OddError):
    """What was handed in does not fit what it was handed in for."""


class BadText(OddError):
    """What was handed in is the text of nothing."""


class BadWeb(OddError):
    """What was handed in is no web; error is what web_error tells of it."""

    def __init__(self, error):
        self.error = error


class Refused(OddError):
    """The deed can't be done."""

    def __init__(self, deed):
        self.deed = deed


class Apart(OddError):
    """No deeds lead from the one web to the other; mark shows it."""

    def __init__(self, mark):
        self.mark = mark


class TooMany(OddError):
    """More than limit are too many."""

    def __init__(self, limit):
        self.limit = limit


class TooManyEdits(OddError):
    """As many edits stand as may stand."""


class NothingToUndo(OddError):
    """No edit stands that could be taken back."""


class NothingToRedo(OddError):
    """No edit was taken back that could be done again."""


class NoVersion(OddError):
    """There is no version such as the given one."""

    def __init__(self, given):
        self.given = given


class BadLog(OddError):
    """The log can't be done from this place on."""

    def __init__(self, place):
        self.place = place
