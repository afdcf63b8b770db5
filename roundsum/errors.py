"""The refusals: each kind has a class of its own straight under RoundError."""


class RoundError(ValueError):
    pass


class NoShape(RoundError):
    pass


class NoPoints(RoundError):
    pass


class NoNumber(RoundError):
    pass


class TooLong(RoundError):
    pass


class NoNote(RoundError):
    pass
