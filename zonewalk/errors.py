"""The refusals, one class for each sort; all of them are WalkErrors."""


class WalkError(ValueError):
    pass


class NoNumber(WalkError):
    pass


class BadMachine(WalkError):
    pass


class TooMany(WalkError):
    pass


class NoRun(WalkError):
    # The asker needs to know where a list of steps went wrong, so the number of the step is handed in.
    def __init__(self, step):
        self.step = step


class NoMark(WalkError):
    pass


class NoRoad(WalkError):
    pass


class NoRoom(WalkError):
    pass


class NoText(WalkError):
    pass


class NoRow(WalkError):
    pass
