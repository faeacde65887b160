"""The refusals of the program, a class for each; every one of them is a GapError."""


class GapError(ValueError):
    pass


class NoForm(GapError):
    pass


class NoDeed(GapError):
    pass


class NoName(GapError):
    pass


class NoCall(GapError):
    pass


class NoStep(GapError):
    pass


class NoRow(GapError):
    pass


class TooBig(GapError):
    pass


class TooLong(GapError):
    pass


class NoPlace(GapError):
    def __init__(self, place):
        self.place = place


class Parted(GapError):
    def __init__(self, place):
        self.place = place


class Caught(GapError):
    def __init__(self, name, place):
        self.name = name
        self.place = place
