"""The refusals, each a class right under PassError."""


class PassError(ValueError):
    pass


class NoRights(PassError):
    pass


class NoName(PassError):
    pass


class NoValue(PassError):
    pass


class NoWords(PassError):
    pass


class NoKind(PassError):
    pass


class NoTask(PassError):
    pass


class NoHandle(PassError):
    pass


class NoThing(PassError):
    pass


class NoRow(PassError):
    pass


class Taken(PassError):
    pass


class TooMany(PassError):
    pass


class TooGreat(PassError):
    pass


class Empty(PassError):
    pass


class Full(PassError):
    pass


class NoDeed(PassError):
    # The deed may be of any kind, even one that can't be written out: so the words don't show it.
    def __init__(self, deed):
        PassError.__init__(self, "the thing has no such deed")
        self.deed = deed


class Lacks(PassError):
    def __init__(self, missing):
        PassError.__init__(self, "rights are missing")
        self.missing = missing
