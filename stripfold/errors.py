"""The refusals."""


class StripError(ValueError):
    pass


class NoPile(StripError):
    pass


class NoCrease(StripError):
    pass


class NoLetters(StripError):
    pass


class NoCount(StripError):
    pass


class Stuck(StripError):
    pass


class Crossing(StripError):
    def __init__(self, one, other):
        # The base gets both creases, so that a copy of the error can be made from what it holds.
        StripError.__init__(self, one, other)
        self.one = one
        self.other = other
