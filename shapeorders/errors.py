"""The refusals: a class for each, all of them under OrderError."""


class OrderError(ValueError):
    pass


class NoRow(OrderError):
    pass


class NoShape(OrderError):
    pass


class NoOrder(OrderError):
    pass


class NoSize(OrderError):
    pass


class TooLong(OrderError):
    pass


class HasOrder(OrderError):
    pass


class NoNumber(OrderError):
    pass
