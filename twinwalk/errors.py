"""The refusals: each class stands straight under TwinError."""


class TwinError(ValueError):
    """Any refusal."""


class NoProgram(TwinError):
    """What is told makes no program, or names a box that is none."""


class NoWorths(TwinError):
    """A list of whole numbers is none of the boxes', or of the inputs', worths."""


class NoPair(TwinError):
    """Two programs have not the same inputs."""


class TooMany(TwinError):
    """More places and worths are come to than a paper may have."""


class NoPaper(TwinError):
    """A paper that is handed in is not let by."""


class NoNode(TwinError):
    """A number is none of the program's nodes."""


class NoChange(TwinError):
    """Two nodes can't be exchanged."""


class NoRow(TwinError):
    """A row of a text has none of the forms."""


class NoForm(TwinError):
    """A row that a desk is told has none of the forms."""


class NoneYet(TwinError):
    """A desk has not yet the program that is asked for."""


class NoPicks(TwinError):
    """A program with picks is asked what only programs without them are."""
