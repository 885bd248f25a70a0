"""The errors of the package: each keeps its arguments under their own names."""


class InvalidTable(ValueError):
    """What should be a table is none: by its part at this index, or by itself (None)."""

    def __init__(self, index):
        self.index = index


class InvalidWaits(ValueError):
    """What should be waits is none: by its part at this index, or by itself (None)."""

    def __init__(self, index):
        self.index = index


class InvalidOptions(ValueError):
    """What should be options is none: by its part at this index, or by itself (None)."""

    def __init__(self, index):
        self.index = index


class InvalidLinks(ValueError):
    """What should be links is none: by the one at this index, by a name that has no way, or by itself (None)."""

    def __init__(self, index):
        self.index = index


class InvalidClaim(ValueError):
    """What should be a claim is none."""


class ParseError(ValueError):
    """A text is none of conditions: by its line at this index."""

    def __init__(self, line):
        self.line = line


class UnknownName(LookupError):
    """This value is no name and no packet of the net."""

    def __init__(self, value):
        self.value = value


class NoRing(RuntimeError):
    """The nodes are no ring of the table, or do not come about."""


class NotSafe(RuntimeError):
    """The table has a ring."""


class Refused(RuntimeError):
    """None of the deeds is done: the one at this index cannot be, for this reason."""

    def __init__(self, index, reason):
        self.index = index
        self.reason = reason


class CannotGo(RuntimeError):
    """A node does not go on: it waits for these, or, if they are none, it has gone on."""

    def __init__(self, waited):
        self.waited = waited


class CannotHop(RuntimeError):
    """A packet cannot be put or hand on so."""


class NothingDone(RuntimeError):
    """There is no deed to undo."""


class LimitExceeded(OverflowError):
    """The answer would take more than this limit."""

    def __init__(self, limit):
        self.limit = limit
