"""The refusals of Sidelink, each a class of its own under SideError."""


class SideError(ValueError):
    pass


class NoPage(SideError):
    pass


class NoHand(SideError):
    pass


class NoRow(SideError):
    pass


class NoDeed(SideError):
    pass


class Busy(SideError):
    pass
