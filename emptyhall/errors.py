"""The refusals of the program."""


class HallError(ValueError):
    """Any refusal."""


class BadHouse(HallError):
    """What is handed in is no house."""


class NoWalk(HallError):
    """What is handed in is no walk out of the house."""


class BadPaper(HallError):
    """What is handed in is no paper for so many minutes."""


class NoText(HallError):
    """What is handed in is not the text of a house."""
