"""The errors of the package: one below PairError for each kind of failure."""


class PairError(ValueError):
    """The base of all errors of the package: it keeps its only argument as `value`."""

    def __init__(self, value):
        self.value = value


class BadBook(PairError):
    """A text is no book; the value is the number of the first line that cannot stand."""


class NoPerson(PairError):
    """The value is no person of the book."""


class BadChoice(PairError):
    """The value is no choice of the person."""


class BadRow(PairError):
    """The value is no row of two or more choices of the person."""


class Round(PairError):
    """A saying, (person, row), would go round with those ahead of it."""


class Full(PairError):
    """A book would have more sayings than the value."""


class NoSaying(PairError):
    """The value is not the number of a saying."""


class OtherPeople(PairError):
    """The value is a book of other people."""


class BadLists(PairError):
    """The value is not lists of the book."""


class BadPairs(PairError):
    """The value is not pairs of the book."""


class NoList(PairError):
    """The value is not the number of a list of the person."""


class OtherBook(PairError):
    """The value is a pairing of another book."""


class NotSure(PairError):
    """The value is a pairing that is not surely steady."""


class BadBound(PairError):
    """The value is not pairs that can be bound."""


class BadBarred(PairError):
    """The value is not pairs that can be barred."""


class BadSide(PairError):
    """The value is no side."""


class NoneSure(PairError):
    """The value is a book without a surely steady pairing."""


class TooMany(PairError):
    """There are more surely steady pairings than the value."""


class TooManyOpen(PairError):
    """There are more open questions than the value."""


class BadOffers(PairError):
    """The value is not offers."""


class BadHopes(PairError):
    """The value is not hopes."""


class BadPair(PairError):
    """The value, (one, other), is no pair of the book."""


class Taken(PairError):
    """The value is a person who is not alone."""


class NotTogether(PairError):
    """The value, (one, other), are not together."""


class NothingToUndo(PairError):
    """No deed stands that could be undone."""


class NothingToRedo(PairError):
    """No deed was taken back that could be done again."""


class NoTrial(PairError):
    """No block of a trial is open."""


class BadJournal(PairError):
    """A text is no journal; the value is the number of the first line that is wrong."""


class BadLine(PairError):
    """The value is no line for a desk."""
