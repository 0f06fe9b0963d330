"""The refusals of the program, each with a class of its own."""


class BodyError(ValueError):
    pass


class Flat(BodyError):
    pass


class NoPoints(BodyError):
    pass


class NoAxis(BodyError):
    pass


class NoMove(BodyError):
    pass


class NoText(BodyError):
    pass


class NoName(BodyError):
    pass


class NoRow(BodyError):
    pass


class TooGreat(BodyError):
    pass
