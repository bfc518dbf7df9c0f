"""The refusals: one class for each, all straight under KeepError."""


class KeepError(ValueError):
    pass


class BadRow(KeepError):
    pass


class NoBlock(KeepError):
    pass


class Stopped(KeepError):
    pass


class BadDisk(KeepError):
    pass


class NoRoom(KeepError):
    pass


class TooMuch(KeepError):
    pass


class BadLog(KeepError):
    pass


class NoNode(KeepError):
    pass


class NoNodes(KeepError):
    pass


class TooLong(KeepError):
    pass


class OutOfPlace(KeepError):
    pass


class BadName(KeepError):
    pass


class BadPath(KeepError):
    pass


class NotFolder(KeepError):
    pass


class NotFile(KeepError):
    pass


class NoName(KeepError):
    pass


class NameThere(KeepError):
    pass


class NotEmpty(KeepError):
    pass


class Within(KeepError):
    pass


class BadOrder(KeepError):
    pass
