"""The refusals. Each one stands straight under CurveError, so that none is taken for another."""


class CurveError(ValueError):
    pass


class NoNumber(CurveError):
    pass


# The words of the refusals with a field name no number: a number of thousands of figures can't be shown
# as a text under every Python, and the refusal must not fail for that.
class NoBack(CurveError):
    def __init__(self, shared):
        CurveError.__init__(self, "a number above 1 divides both: the field shared is the greatest")
        self.shared = shared


class NoJoin(CurveError):
    def __init__(self, shared):
        CurveError.__init__(self, "the two rests don't fit one another by the number in the field shared")
        self.shared = shared


class NoSign(CurveError):
    pass


class NotPlain(CurveError):
    pass


class NoPlace(CurveError):
    pass


class BadPlace(CurveError):
    def __init__(self, place):
        CurveError.__init__(self, "the curve has no point at the place in the field place")
        self.place = place


class NoVertex(CurveError):
    pass


class Flat(CurveError):
    def __init__(self, vertex):
        CurveError.__init__(self, "the size of the sum is 0: the field vertex is a vertex of it")
        self.vertex = vertex


class OffCurve(CurveError):
    pass


class NoPair(CurveError):
    pass


class NoLine(CurveError):
    pass


class NoText(CurveError):
    pass


class NoRow(CurveError):
    pass


class NoName(CurveError):
    pass
