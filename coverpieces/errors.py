"""The refusals, one class for each."""


class CoverError(ValueError):
    """Any refusal."""


class NoText(CoverError):
    """What is told is no text, or a text of another form."""


class NoPuzzle(CoverError):
    """There is no puzzle, or what is written is none."""


class NoLaying(CoverError):
    """A laying doesn't keep the puzzle."""


class NoNumber(CoverError):
    """A number is out of its bounds, or what should be one is none."""
