"""Pairings of the people of a book."""

from factpairs.books import refuse_no_person, refuse_other_people
from factpairs.errors import BadPairs, NotSure, OtherBook
from factpairs.judging import is_sure
from factpairs.pairs import are_pairs, pairs_of, partners_of


class Pairing:
    """Who is together: pairs by a book.

    Beside what callers use, it has `partners`: a dict that leads from each person to the partner, or to "".
    """

    def __init__(self, book, pairs):
        if not are_pairs(pairs, book.ones, book.others):
            raise BadPairs(pairs)
        self.book = book
        self.pairs = pairs
        self.partners = partners_of(book.persons, pairs)
        self.alone = tuple([person for person in book.persons if self.partners[person] == ""])

    def __eq__(self, other):
        return isinstance(other, Pairing) and self.book == other.book and self.pairs == other.pairs

    def __len__(self):
        return len(self.pairs)

    def __getitem__(self, person):
        refuse_no_person(self.book, person)
        return self.partners[person]

    def __iter__(self):
        raise TypeError("a pairing is not gone over")

    def __contains__(self, value):
        return value in self.pairs

    def __or__(self, other):
        if not isinstance(other, Pairing):
            return NotImplemented
        refuse_unlike_or_unsure(self, other)
        return of_both(self, other, True)

    def __and__(self, other):
        if not isinstance(other, Pairing):
            return NotImplemented
        refuse_unlike_or_unsure(self, other)
        return of_both(self, other, False)

    def __le__(self, other):
        if not isinstance(other, Pairing):
            return NotImplemented
        refuse_unlike_or_unsure(self, other)
        return all([self[one] == other[one] or (one, other[one], self[one]) in self.book for one in self.book.ones])

    def on(self, book):
        """The Pairing of these pairs by another book of the same people."""
        refuse_other_people(self.book, book)
        return Pairing(book, self.pairs)


def refuse_unlike_or_unsure(one, other):
    """OtherBook unless the books of both are equal, then NotSure with the first one that is not surely steady."""
    if one.book != other.book:
        raise OtherBook(other)
    for pairing in (one, other):
        if not is_sure(pairing):
            raise NotSure(pairing)


def of_both(one, other, liked):
    """The Pairing in which each of the ones has of both partners the one liked more, or if not `liked`, less."""
    book = one.book
    partners = {}
    for person in book.ones:
        first, second = one[person], other[person]
        partners[person] = first if ((person, first, second) in book) == liked else second
    return Pairing(book, pairs_of(book.ones, partners))
