"""The refusals, one class for each."""


class LineError(ValueError):
    pass


class NoScreen(LineError):
    pass


class NoOrder(LineError):
    pass


class NoRoom(LineError):
    pass


class NoNumber(LineError):
    pass


class NoTable(LineError):
    pass


class NoTask(LineError):
    pass


class NoText(LineError):
    pass


class NoBack(LineError):
    pass
