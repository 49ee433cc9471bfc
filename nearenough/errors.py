"""The refusals, all under one class."""


class NearError(ValueError):
    """Any refusal."""


class NoWeb(NearError):
    """A text that is no web; row is the number of the first row that can't stand."""

    def __init__(self, row):
        NearError.__init__(self, f"no web: row {row} can't stand there")
        self.row = row


class Lacking(NearError):
    """Sets that together lack a thing; thing is the least such."""

    def __init__(self, thing):
        NearError.__init__(self, f"no set has the thing {thing}")
        self.thing = thing


class NoName(NearError):
    """A name by which nothing stands."""


class NoRow(NearError):
    """A row of words that asks for nothing known."""
