"""What the program refuses, one class for each refusal."""


class WayError(ValueError):
    """Any refusal."""


class BadDeed(WayError):
    """A deed that the plan has no place for."""


class Taken(WayError):
    """A name that a sender bears or bore already."""


class NoName(WayError):
    """A name that nobody there bears."""


class NoDeed(WayError):
    """Nothing is there to be undone."""


class NoLine(WayError):
    """A line of no known form."""


class NoText(WayError):
    """A text that is no plan's; row is the number of the first row at fault."""

    def __init__(self, row):
        WayError.__init__(self, f"no plan is written so: row {row}")
        self.row = row
