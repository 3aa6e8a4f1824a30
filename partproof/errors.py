"""The refusals of the program, one class for each."""


class PartError(ValueError):
    """Any refusal."""


class BadNames(PartError):
    """The lists make no names."""


class BadTerm(PartError):
    """It is no term of the names, or too deep."""


class BadStatement(PartError):
    """It is no statement of the names, or too deep."""


class NotTold(PartError):
    """More is to be taken back than was told."""


class NoText(PartError):
    """The text is not written as it is to be."""


class NoRow(PartError):
    """The line is none that the desk takes."""


class NoNumber(PartError):
    """The two do not make a fraction."""
