"""The errors of this package; each keeps what it was made with."""


class ServeError(Exception):
    """The base class of all errors but NoName."""


class InvalidFraction(ServeError):
    """No fraction."""

    def __init__(self, at):
        self.at = at


class InvalidTable(ServeError):
    """No table."""

    def __init__(self, at):
        self.at = at


class InvalidPrices(ServeError):
    """No prices of a table."""

    def __init__(self, at):
        self.at = at


class InvalidOpening(ServeError):
    """No opening, or no shares, of a table."""

    def __init__(self, at):
        self.at = at


class InvalidPayments(ServeError):
    """No right payments of a table."""

    def __init__(self, at):
        self.at = at


class InvalidRing(ServeError):
    """No ring of a table."""

    def __init__(self, at):
        self.at = at


class InvalidRoads(ServeError):
    """No roads, or no seats on them."""

    def __init__(self, at):
        self.at = at


class InvalidText(ServeError):
    """No text of what is to be read."""

    def __init__(self, at):
        self.at = at


class InvalidSize(ServeError):
    """A value that cannot be taken, told by its word."""

    def __init__(self, word):
        self.word = word


class InvalidCommand(ServeError):
    """No command."""


class Refused(ServeError):
    """What cannot be done, told by its word."""

    def __init__(self, word):
        self.word = word


class NoName(KeyError):
    """Nobody, or nothing, has this name."""

    def __init__(self, name):
        self.name = name
