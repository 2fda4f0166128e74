"""The refusals: one class each, all under SumError and none under another."""


class SumError(ValueError):
    """Any refusal."""


class NoText(SumError):
    """A text that is not written as a statement is."""


class TooLong(SumError):
    """A text with too many signs, figures in one run, or brackets within one another."""


class TooGreat(SumError):
    """A statement that does not fit."""


class NoValue(SumError):
    """A name that needs a number and has none."""


class NoPick(SumError):
    """A statement of which there is nothing to pick."""


class NoLine(SumError):
    """A line that the desk does not know."""


class Known(SumError):
    """A name that is kept already."""


class Unknown(SumError):
    """A name that is not kept."""
