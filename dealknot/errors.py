"""The refusals of the program: one class for each of them, all under HallError."""


class HallError(ValueError):
    pass


class NoName(HallError):
    pass


class NoAmount(HallError):
    pass


class NoLeg(HallError):
    pass


class NotWaiting(HallError):
    pass


class Twice(HallError):
    pass


class TooLittle(HallError):
    pass


class NotNow(HallError):
    pass


class NotForetold(HallError):
    pass


class NoRow(HallError):
    pass


class NoBack(HallError):
    pass
