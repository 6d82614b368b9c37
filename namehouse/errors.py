"""The refusals of the package: all straight under HouseError, none under another one."""


class HouseError(ValueError):
    """Any refusal."""


class BadName(HouseError):
    """What is no name, or no name's text."""


class BadRecord(HouseError):
    """What is no record, no kind or no list of records."""


class BadLetter(HouseError):
    """What is no letter, or no letter's row."""


class BadZone(HouseError):
    """What no zone comes of."""


class BadRow(HouseError):
    """A row of a text that can't be read; its field row counts from 1."""

    def __init__(self, row=1):
        HouseError.__init__(self, f"row {row} can't be read")
        self.row = row


class BadChange(HouseError):
    """A change that can't be made."""


class BadTurn(HouseError):
    """What is no turn."""


class BadLine(HouseError):
    """A line that can't be answered."""
