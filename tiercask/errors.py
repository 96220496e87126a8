"""The refusals of the program, one class for each."""


class TierError(ValueError):
    pass


class NoNumber(TierError):
    pass


class NoPlace(TierError):
    pass


class NoCask(TierError):
    pass


class NoRule(TierError):
    pass


class TooMany(TierError):
    pass


class NoText(TierError):
    pass


class Lacking(TierError):
    def __init__(self, at):
        TierError.__init__(self, f"more is taken than there is, at deed {at}")
        self.at = at


class Full(TierError):
    def __init__(self, at):
        TierError.__init__(self, f"more is put in than there is room for, at deed {at}")
        self.at = at


class NotSteady(TierError):
    pass


class NoDeed(TierError):
    pass


class Tied(TierError):
    def __init__(self, at):
        TierError.__init__(self, f"a later deed could not be done, at deed {at}")
        self.at = at


class NoChange(TierError):
    pass


class NoRow(TierError):
    pass


class NoName(TierError):
    pass
