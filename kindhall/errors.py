"""The refusals."""


class HallError(ValueError):
    """Any refusal."""


class NoText(HallError):
    """A text writes no thought or saying."""


class TooDeep(HallError):
    """Too many brackets of a text are open at once."""


class NoKind(HallError):
    """A word stands in no group of a tree."""


class NoThing(HallError):
    """A thing is not named by a book."""


class NoSaying(HallError):
    """No saying stands by a number."""


class TooMany(HallError):
    """Too many numbers are doubted."""


class Full(HallError):
    """A hall has no room for one more saying."""
