"""The refusals: each stands straight beneath FolkError, none beneath another."""


class FolkError(ValueError):
    pass


class NoTable(FolkError):
    pass


class NoFolk(FolkError):
    pass


class NoElement(FolkError):
    pass


class NoPart(FolkError):
    pass


class NotLoose(FolkError):
    pass


class TooLarge(FolkError):
    pass


class NoNote(FolkError):
    pass
