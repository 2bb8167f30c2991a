"""The refusals, one class for each reason."""


class DueError(ValueError):
    pass


class BadRiver(DueError):
    pass


class BadYear(DueError):
    pass


class NoPoint(DueError):
    pass


class Taken(DueError):
    pass


class NoRight(DueError):
    pass


class NotShort(DueError):
    pass


class TooMuch(DueError):
    pass


class Unlike(DueError):
    pass


class Harm(DueError):
    pass


class NoPond(DueError):
    pass


class NotBelow(DueError):
    pass


class BadText(DueError):
    pass
