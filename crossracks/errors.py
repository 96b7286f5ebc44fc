"""The refusals of the program, each a class of its own under HallError."""


class HallError(ValueError):
    pass


class NoHall(HallError):
    pass


class NoCalls(HallError):
    pass


class NoLine(HallError):
    pass


class NoRule(HallError):
    pass


class Idle(HallError):
    pass


class Busy(HallError):
    def __init__(self, who):
        self.who = who


class Engaged(HallError):
    # The lists are copied, so that whoever catches the refusal owns them.
    def __init__(self, holds, least):
        self.holds = [list(callers) for callers in holds]
        self.least = None if least is None else list(least)


class NoMove(HallError):
    pass


class TooFull(HallError):
    def __init__(self, side, rack, many):
        self.side = side
        self.rack = rack
        self.many = many


class NoTable(HallError):
    def __init__(self, place):
        self.place = place


class NoTurns(HallError):
    def __init__(self, place):
        self.place = place


class Wide(HallError):
    def __init__(self, caller):
        self.caller = caller


class NoBook(HallError):
    def __init__(self, row):
        self.row = row


class NoFigure(HallError):
    pass


class NoTurn(HallError):
    pass


class NoKind(HallError):
    pass


class NoRank(HallError):
    pass


class Out(HallError):
    def __init__(self, was):
        self.was = was


class TooMany(HallError):
    def __init__(self, most):
        self.most = most


class NoDeed(HallError):
    def __init__(self, deed):
        self.deed = deed


class NoRow(HallError):
    pass


class NoName(HallError):
    pass


class NoRack(HallError):
    pass
