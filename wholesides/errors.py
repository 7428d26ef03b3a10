"""The refusals: each straight under SideError, none under another one."""


class SideError(ValueError):
    """Any refusal."""


class NoShape(SideError):
    """What was handed in makes no shape."""


class NoFace(SideError):
    """The shape hasn't such a face."""


class NoPiece(SideError):
    """There is no such piece."""


class NoCorner(SideError):
    """A corner is in the way."""


class NoOrder(SideError):
    """The piece at the place `at` of a list doesn't fit."""

    def __init__(self, at):
        super().__init__(f"the piece at place {at} does not fit")
        self.at = at


class NoWish(SideError):
    """What was handed in is no wish."""


class NoFit(SideError):
    """The piece can't be laid, or none can be taken back."""


class NotClosed(SideError):
    """The shape isn't closed."""


class NoShrink(SideError):
    """The row numbered `at` takes no two faces away."""

    def __init__(self, at):
        super().__init__(f"row {at} does not shrink the shape")
        self.at = at


class TooMany(SideError):
    """There are more pieces or corners than may be."""


class NoText(SideError):
    """The line numbered `line` is none, or can't stand where it stands."""

    def __init__(self, line):
        super().__init__(f"line {line} can not be read")
        self.line = line


class NoRow(SideError):
    """The desk knows no such row."""


class NoName(SideError):
    """It is no name, or nothing stands by it."""
