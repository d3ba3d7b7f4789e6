"""The refusals: each stands right under OrganError, none under another one."""


class OrganError(ValueError):
    pass


class NoNumber(OrganError):
    pass


class NoSet(OrganError):
    pass


class NoKnob(OrganError):
    pass


class NoPiston(OrganError):
    pass


class NoBoard(OrganError):
    pass


class NoKey(OrganError):
    pass


class NotHeld(OrganError):
    pass


class NoStep(OrganError):
    pass


class NoDeed(OrganError):
    pass


class NoRoll(OrganError):
    pass


class TooMany(OrganError):
    pass


class NoRow(OrganError):
    pass


class Unknown(OrganError):
    pass


class NoOrgan(OrganError):
    def __init__(self, at):
        self.at = at


class NoPlay(OrganError):
    def __init__(self, place):
        self.place = place
