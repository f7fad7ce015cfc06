"""The refusals: each class stands straight under GateError, none under another one."""


class GateError(ValueError):
    """Any refusal."""


class NoPart(GateError):
    """There is no such part at the path."""


class Full(GateError):
    """The row has as many items as a row may have."""


class NoPicture(GateError):
    """It is the picture of no worth of the kind by the laying."""


class NoRoom(GateError):
    """So many free words stand nowhere in a row."""


class NoBlock(GateError):
    """No standing block begins, or lies, at the address."""


class WrongHand(GateError):
    """The other hand took the block."""


class NoWord(GateError):
    """The number is no word."""


class NoText(GateError):
    """The text writes no kind or no paper."""


class NoThing(GateError):
    """The number is that of no standing thing."""


class NoProgram(GateError):
    """It is no good program."""


class NoDoor(GateError):
    """The text is no door's name."""


class NoWorths(GateError):
    """It is not one worth of its kind for each place."""
