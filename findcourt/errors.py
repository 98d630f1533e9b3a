"""The refusals: each one stands straight under FindError, so that any can be taken by that name."""


class FindError(ValueError):
    pass


class NoField(FindError):
    def __init__(self, place):
        self.place = place


class NoMake(FindError):
    def __init__(self, place):
        self.place = place


class NoBytes(FindError):
    pass


class NoDocument(FindError):
    pass


class NoStamp(FindError):
    pass


class NoPiece(FindError):
    pass


class NoPattern(FindError):
    pass


class NoLine(FindError):
    pass


class NoText(FindError):
    pass
