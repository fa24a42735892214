"""The refusals of the program."""


class GuessError(ValueError):
    """A refusal. Each kind of refusal is a direct subclass."""

    def __init__(self):
        ValueError.__init__(self)


class NotValid(GuessError):
    """An argument is outside of its bounds."""
