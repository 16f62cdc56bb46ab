"""The errors of the package, each one under DrawError alone.

The classes that keep something have no base of their own in common, because the document
lets them stand under DrawError and nothing else; so each one writes out its own __init__.
"""


class DrawError(ValueError):
    """The base of all errors of this package."""


class InvalidFraction(DrawError):
    def __init__(self, given):
        super().__init__("no fraction of the told kind")
        self.given = given


class InvalidNumber(DrawError):
    def __init__(self, given):
        super().__init__("no whole number of the told size")
        self.given = given


class InvalidIndex(DrawError):
    def __init__(self, given):
        super().__init__("no index of an element")
        self.given = given


class InvalidShare(DrawError):
    def __init__(self, given):
        super().__init__("no share of the told size")
        self.given = given


class InvalidWish(DrawError):
    def __init__(self, given):
        super().__init__("no fraction above 0 and up to 1")
        self.given = given


class InvalidStretch(DrawError):
    def __init__(self, given):
        super().__init__("no stretch of so many draws")
        self.given = given


class InvalidWord(DrawError):
    def __init__(self, given):
        super().__init__("no word")
        self.given = given


class InvalidStair(DrawError):
    def __init__(self, given):
        super().__init__("no stair for so many letters")
        self.given = given


class InvalidSaying(DrawError):
    def __init__(self, index):
        super().__init__("no saying")
        self.index = index


class InvalidShares(DrawError):
    def __init__(self, index):
        super().__init__("no shares of atoms")
        self.index = index


class InvalidBox(DrawError):
    def __init__(self, index):
        super().__init__("no box")
        self.index = index


class InvalidBand(DrawError):
    def __init__(self, index):
        super().__init__("no band")
        self.index = index


class InvalidClaims(DrawError):
    def __init__(self, index):
        super().__init__("no place claims")
        self.index = index


class InvalidGroups(DrawError):
    def __init__(self, index):
        super().__init__("no groups")
        self.index = index


class InvalidScores(DrawError):
    def __init__(self, index):
        super().__init__("no scores")
        self.index = index


class InvalidRows(DrawError):
    def __init__(self, index):
        super().__init__("no rows of the told length")
        self.index = index


class InvalidRules(DrawError):
    def __init__(self, index):
        super().__init__("no rules for these rows")
        self.index = index


class InvalidRow(DrawError):
    def __init__(self, index):
        super().__init__("no row of the told length")
        self.index = index


class InvalidWords(DrawError):
    def __init__(self, index):
        super().__init__("no set of words")
        self.index = index


class InvalidValues(DrawError):
    def __init__(self, index):
        super().__init__("no values of the told number")
        self.index = index


class TooMany(DrawError):
    """More elements would come of it than are let."""


class NotApart(DrawError):
    """Two things that have to be unlike are the same."""
