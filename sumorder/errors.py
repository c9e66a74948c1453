"""The refusals: one error class for each kind of thing that is refused."""


class SumError(ValueError):
    """Any refusal."""


class NoFilling(SumError):
    """No filling of the sheet, or no worth of the name."""


class NoName(SumError):
    """No name, tuple of names or order that fits."""


class TooMany(SumError):
    """More names than are reckoned with."""


class NoDeeds(SumError):
    """Deeds by which this is not told."""


class NoOffers(SumError):
    """No list of offers."""


class NoTree(SumError):
    """No tree of bags that is right for the sheet."""


class NoBag(SumError):
    """No bag of this number."""


class NoPart(SumError):
    """No part of this number."""


class NoWorths(SumError):
    """No worths that fit the part."""


class NoBack(SumError):
    """No change that could be undone."""


class NoWeights(SumError):
    """Fillings whose worths are no weights."""


class NoNumber(SumError):
    """No number of a filling."""


class NoRow(SumError):
    """No row that the desk understands."""


class NoText(SumError):
    """No sheet's text; at is the number of the word where this shows."""

    def __init__(self, at):
        SumError.__init__(self, f"no text of a sheet, by word {at}")
        self.at = at
