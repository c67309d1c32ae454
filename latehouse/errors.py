"""The refusals of the ledger, one class for each kind."""


class HouseError(ValueError):
    """Any refusal."""


class BadCount(HouseError):
    """What should tell how many houses a town has is no whole number from 1 to 12."""


class BadHouse(HouseError):
    """What should be a house is none of the kind that is asked for."""


class BadRow(HouseError):
    """What should be a row is no text of 1 to 8 letters a to z."""


class BadWord(HouseError):
    """What should be a word is no word of the town."""


class Forged(HouseError):
    """A word of another house was never spoken."""


class NoLetter(HouseError):
    """No letter of that number waits."""


class NotWritten(HouseError):
    """Nothing is written at that number."""


class NoText(HouseError):
    """What should be the text of a word is none."""
