"""The errors that the program raises."""


class TableError(ValueError):
    """What is wrong with facts, formulas, tables, texts or a book's edits."""


class BadFacts(TableError):
    """Facts, or an edit that would make such, are refused."""

    def __init__(self, number, word):
        self.number = number
        self.word = word


class BadFormula(TableError):
    """A formula, or a claim of such, is refused."""

    def __init__(self, word):
        self.word = word


class BadSize(TableError):
    """No table of this size can be asked for."""

    def __init__(self, size):
        self.size = size


class BadText(TableError):
    """A text is refused at a word of a line."""

    def __init__(self, line, number):
        self.line = line
        self.number = number


class Full(TableError):
    """A book takes no more edits."""


class NoTable(TableError):
    """Entries make a pair of unlike names one thing."""

    def __init__(self, pair, numbers):
        self.pair = pair
        self.numbers = numbers


class NotOnce(TableError):
    """A formula cannot be solved for a name that does not stand just once in it."""

    def __init__(self, name):
        self.name = name


class NothingToUndo(TableError):
    """No edit of a book is in effect."""


class Taken(TableError):
    """A name stands in a formula in which it must not."""

    def __init__(self, name):
        self.name = name


class TooMany(TableError):
    """There are more tuples of things than are tried."""

    def __init__(self, limit):
        self.limit = limit


class TornGivens(TableError):
    """No world has the givens with these numbers."""

    def __init__(self, numbers):
        self.numbers = numbers


class UnlikeNames(TableError):
    """Two facts have unlike numbers of names."""

    def __init__(self, one, other):
        self.one = one
        self.other = other


class NoClaim(LookupError):
    """A book has no claim with this number."""

    def __init__(self, number):
        self.number = number


class NoEntry(LookupError):
    """A book has no entry with this number."""

    def __init__(self, number):
        self.number = number


class NoPair(LookupError):
    """A book has no pair of unlike names with this number."""

    def __init__(self, number):
        self.number = number
