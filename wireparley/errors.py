"""The refusals: each has a class of its own, and all stand under ParleyError alone."""


class ParleyError(ValueError):
    pass


class NoValue(ParleyError):
    pass


class Short(ParleyError):
    pass


class Broken(ParleyError):

    def __init__(self, at, side):
        self.at = at
        self.side = side


class NoTalk(ParleyError):

    def __init__(self, at):
        self.at = at


class NoName(ParleyError):
    pass


class NoText(ParleyError):
    pass


class NoRow(ParleyError):
    pass
