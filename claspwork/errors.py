"""The refusals of Claspwork: one class for each kind, none of them under another one."""


class ClaspError(ValueError):
    pass


class BadWork(ClaspError):
    pass


class BadDeed(ClaspError):
    pass


class BadRow(ClaspError):
    pass


class BadStretch(ClaspError):
    pass


class BadTree(ClaspError):
    pass


class Unlike(ClaspError):
    pass


class TooMany(ClaspError):
    pass


class NoSuch(ClaspError):
    pass


class NoPaper(ClaspError):
    pass


class Crossed(ClaspError):
    pass


class NoText(ClaspError):
    pass
