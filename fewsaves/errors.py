"""The refusals of the program, each straight under SaveError."""


class SaveError(ValueError):
    """What all refusals stand under."""


class BadRow(SaveError):
    """A row of a text isn't written as told, or can't stand where it stands."""

    def __init__(self, row):
        self.row = row


class NoWorks(SaveError):
    """A text is rightly written, but tells no works."""
