"""The refusals: each one stands straight under FindError."""


class FindError(ValueError):
    """Any refusal."""


class NoField(FindError):
    """A document whose tuple at this place has a field that is no name or does not rise."""

    def __init__(self, place):
        self.place = place


class NoMake(FindError):
    """A make that may not stand where it does; place says where."""

    def __init__(self, place):
        self.place = place


class NoBytes(FindError):
    """A row of numbers that nothing is packed into."""


class NoDocument(FindError):
    """A number that no document has."""


class NoStamp(FindError):
    """A stamp that is not kept."""


class NoPiece(FindError):
    """A place at which there is no piece."""


class NoPattern(FindError):
    """A text that is no pattern."""


class NoLine(FindError):
    """A line that is none of those told."""


class NoText(FindError):
    """A line that no question or paper is written as."""
