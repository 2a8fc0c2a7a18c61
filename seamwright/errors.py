"""The refusals, one class each, so that a caller can take just the one that is meant."""


class SeamError(ValueError):
    pass


class NoWeb(SeamError):
    pass


class NoPiece(SeamError):
    pass


class NoChain(SeamError):
    pass


class NotClosed(SeamError):
    pass


class NoTable(SeamError):
    pass


class NoGoal(SeamError):
    pass


class NoPush(SeamError):
    pass


class NoMap(SeamError):
    pass


class NoOrder(SeamError):
    pass


class NoNumber(SeamError):
    pass


class NoNote(SeamError):
    pass
