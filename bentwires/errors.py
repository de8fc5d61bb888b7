"""The refusals of the program."""


class WireError(ValueError):
    """Any refusal."""


class NoDrawing(WireError):
    """A text is no row of words that makes up a drawing."""


class BadWires(WireError):
    """The drawings of the word `then` at a place do not meet."""

    def __init__(self, place):
        WireError.__init__(self, f"the drawings of the word then at place {place} do not meet")
        self.place = place


class Late(WireError):
    """A drawing has a box that waits where none may wait."""


class BadSides(WireError):
    """Two things have not as many wires on each side."""


class NoMove(WireError):
    """A rule does not fit where it is to move a drawing."""


class NoRun(WireError):
    """A drawing does not run as a machine."""
