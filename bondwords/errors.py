"""The errors that the package raises."""


class BondError(ValueError):
    """Any argument that is refused."""


class BadBonds(BondError):
    """A table that is none of bonds; place is the first wrong pair of letters, or None."""

    def __init__(self, place):
        self.place = place


class BadWord(BondError):
    """What is no word; place is that of the first item that is no letter, or None."""

    def __init__(self, place):
        self.place = place


class BadRow(BondError):
    """A value that is no row, or not the row of a word."""

    def __init__(self, value):
        self.value = value


class BadDeed(BondError):
    """What is no deed that can be done; place is its number among the deeds, or None."""

    def __init__(self, place):
        self.place = place


class BadNumber(BondError):
    """A value that is no letter, or no number that is asked for."""

    def __init__(self, value):
        self.value = value


class Unlike(BondError):
    """Words that are not alike, or not shortest."""


class BadChoice(BondError):
    """A value that is no choice of letters."""

    def __init__(self, value):
        self.value = value


class BadText(BondError):
    """A text that tells nothing; place is the character at which it goes wrong, or None."""

    def __init__(self, place):
        self.place = place


class NothingLeft(BondError):
    """There is nothing to take back, or nothing to do again."""


class Endless(BondError):
    """Something is asked of endless bonds that only finite ones have."""


class TooGreat(OverflowError):
    """More is wanted than most, the greatest number that is allowed."""

    def __init__(self, most):
        self.most = most
