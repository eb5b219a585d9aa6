"""The refusals, one class each."""


class LineError(ValueError):
    pass


class SamePoint(LineError):
    pass


class BadPoints(LineError):
    pass


class BadText(LineError):
    pass
