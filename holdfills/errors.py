"""The errors of the package.

None of them puts what it was passed into a text when it is created: that may be
a value of any kind, and one whose text cannot be told.
"""


class HoldError(ValueError):
    """Beneath it are all errors of the package."""


class BadHolder(HoldError):
    """A value is no holder."""

    def __init__(self, value):
        self.value = value


class BadFilling(HoldError):
    """A value is no filling of a holder."""

    def __init__(self, value):
        self.value = value


class BadProgram(HoldError):
    """A value is no program, or no table of another kind; the place tells where it fails."""

    def __init__(self, place):
        self.place = place


class BadParting(HoldError):
    """A value is no parting."""

    def __init__(self, value):
        self.value = value


class BadRanking(HoldError):
    """A value is no ranking."""

    def __init__(self, value):
        self.value = value


class BadLot(HoldError):
    """A value is no lot."""

    def __init__(self, value):
        self.value = value


class BadStanding(HoldError):
    """A value is no standing; the place tells which rule is broken, and where."""

    def __init__(self, place):
        self.place = place


class BadBook(HoldError):
    """A value is no book; the place tells which rule is broken, and where."""

    def __init__(self, place):
        self.place = place


class BadExchange(HoldError):
    """A value is no exchange, or no matched pair; the place tells which rule is broken, and where."""

    def __init__(self, place):
        self.place = place


class BadLife(HoldError):
    """A value is no life, or keeps no standing; the place tells where it fails."""

    def __init__(self, place):
        self.place = place


class BadWindow(HoldError):
    """A value is no window; the place tells which rule is broken, and where."""

    def __init__(self, place):
        self.place = place


class BadIndex(HoldError):
    """A value is no number of what it should number."""

    def __init__(self, value):
        self.value = value


class BadParameter(HoldError):
    """A value is not what its parameter asks for."""

    def __init__(self, value):
        self.value = value


class NoRow(HoldError):
    """What is asked for is not there."""


class TooGreat(HoldError):
    """A told number is greater than `most`."""

    def __init__(self, most):
        self.most = most
