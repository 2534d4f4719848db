"""The errors of the package."""


class PastError(ValueError):
    """What all errors of the package stand under."""


class NoName(PastError):
    """No deed, or no house, has the name."""


class NoState(PastError):
    """The value is no state of the vault."""


class NoCall(PastError):
    """The value is no call of the vault."""


class NoCoins(PastError):
    """The value is no list of falls of coins."""


class CoinsOut(PastError):
    """More coins fall than are told."""


class HasCoins(PastError):
    """The vault has coins."""


class NotSure(PastError):
    """The vault is not sure."""


class NotComing(PastError):
    """The state cannot come."""


class NoMost(PastError):
    """The value is no integer from 1 to 100000."""


class NoNames(PastError):
    """The value is no list of names of deeds."""


class OtherCalls(PastError):
    """The calls are not those of the vault."""


class NoStand(PastError):
    """The value is no stand of the reader."""


class NoStruck(PastError):
    """The value is no list of calls to be struck."""


class NoContent(PastError):
    """The value is no content of the wish."""


class TooWide(PastError):
    """There are too many contents, or the sizes are too great."""


class NoSizes(PastError):
    """The value is no tuple of sizes."""


class NoLayouts(PastError):
    """The value is no list of layouts."""


class NoSize(PastError):
    """The value is no size that is looked at."""


class NoHand(PastError):
    """The value is no hand."""


class Busy(PastError):
    """The hand is amid a call."""


class NotBusy(PastError):
    """The hand is amid no call."""


class NoRule(PastError):
    """The value is no rule."""


class NoChoice(PastError):
    """The value is no choice of one state of each content."""


class OtherSizes(PastError):
    """The cells have other sizes."""


class NoCut(PastError):
    """The call has no such number of steps."""


class NoBack(PastError):
    """So many items cannot be taken back."""


class NotPlain(PastError):
    """There is a cut or an edition in the log."""


class NoLook(PastError):
    """There was no look."""


class NoExpression(PastError):
    """The value is no expression, or the text of none."""


class NoLine(PastError):
    """The line has none of the forms of a line."""


class NothingDone(PastError):
    """There is nothing to take back."""


class NoVault(PastError):
    """The parts are not those of a vault."""

    def __init__(self, part):
        PastError.__init__(self, "the parts are not those of a vault")
        self.part = part


class NoReader(PastError):
    """The parts are not those of a reader."""

    def __init__(self, part):
        PastError.__init__(self, "the parts are not those of a reader")
        self.part = part


class NoWish(PastError):
    """The parts are not those of a wish."""

    def __init__(self, part):
        PastError.__init__(self, "the parts are not those of a wish")
        self.part = part


class TooMany(PastError):
    """There is more to look at than `most` lets."""

    def __init__(self, most):
        PastError.__init__(self, "there is more to look at than most lets")
        self.most = most


class NoRow(PastError):
    """The value is no row of items: the item at the index is wrong, or all of it (-1)."""

    def __init__(self, index):
        PastError.__init__(self, "the value is no row of items")
        self.index = index


class NoWeaving(PastError):
    """The value is no weaving: the item at the index is wrong, or all of it (-1)."""

    def __init__(self, index):
        PastError.__init__(self, "the value is no weaving")
        self.index = index


class NoText(PastError):
    """The value is no such text: the line is wrong, or all of it (-1)."""

    def __init__(self, line):
        PastError.__init__(self, "the value is no such text")
        self.line = line
