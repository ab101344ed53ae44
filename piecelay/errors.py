"""All refusals of the program."""


class PieceError(ValueError):
    """Any refusal."""


class NoSize(PieceError):
    """It is no size."""


class NoTree(PieceError):
    """It is no tree."""


class NoArgs(PieceError):
    """They are not four numbers of the size."""


class NoCode(PieceError):
    """It is no code."""


class NoSteps(PieceError):
    """It is no number of steps."""


class Late(PieceError):
    """The code has not ended within its steps."""


class NoPiece(PieceError):
    """It is no piece."""


class NoSet(PieceError):
    """It is no set of pieces."""


class NoCover(PieceError):
    """There is no covering."""


class NoParts(PieceError):
    """They are no parts of the tree."""


class NoName(PieceError):
    """It is no name, or nothing has it."""


class Taken(PieceError):
    """The name is there already."""


class Fault(PieceError):
    """The instruction at the place can not be done."""

    def __init__(self, place):
        self.place = place


class Broken(PieceError):
    """The piece does not keep its contract in the trial."""

    def __init__(self, trial):
        self.trial = trial
