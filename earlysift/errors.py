"""The refusals: each its own class, and none beneath another one but SiftError."""


class SiftError(ValueError):
    pass


class NoSign(SiftError):
    def __init__(self, at):
        self.at = at


class NoText(SiftError):
    def __init__(self, at):
        self.at = at


class NoPart(SiftError):
    pass


class Taken(SiftError):
    pass


class Late(SiftError):
    pass
