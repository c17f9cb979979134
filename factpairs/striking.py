"""Strikes, and the surely steady pairings to which they lead."""

from factpairs.errors import BadBarred, BadBound, BadSide
from factpairs.pairings import Pairing
from factpairs.pairs import are_ascending_pairs, are_pairs, pairs_of, partners_of
from factpairs.slates import first_slate, needed, strike_out


def unstruck(book, *, bound=(), barred=()):
    """The choices of each person that are not struck when no right strike is left: BadBound, BadBarred."""
    refuse_bound_or_barred(book, bound, barred)
    slate = first_slate(book, bound, barred)
    strike_out(slate)
    return tuple([slate.choices_left(person) for person in book.persons])


def steadied(book, *, bound=(), barred=(), side="ones"):
    """("pairing", pairing), the best for this side, or ("none", strikes): BadBound, BadBarred, BadSide."""
    refuse_bound_or_barred(book, bound, barred)
    refuse_no_side(side)
    slate = first_slate(book, bound, barred)
    strikes = strike_out(slate)
    if slate.is_bare():
        return ("none", needed(first_slate(book, bound, barred), strikes))
    return ("pairing", best_of(slate, side))


def shows_steadied(book, value, *, bound=(), barred=(), side="ones"):
    """Whether any value is such a result as is told for steadied: BadBound, BadBarred, BadSide."""
    told = steadied(book, bound=bound, barred=barred, side=side)
    if not isinstance(value, tuple) or len(value) != 2:
        return False
    if value[0] == "pairing":
        return value == told
    return value[0] == "none" and lead_to_none(first_slate(book, bound, barred), value[1])


def refuse_bound_or_barred(book, bound, barred):
    """BadBound(bound), BadBarred(barred) unless they are pairs that can be so."""
    if not are_pairs(bound, book.ones, book.others):
        raise BadBound(bound)
    if not are_ascending_pairs(barred, book.ones, book.others):
        raise BadBarred(barred)


def refuse_no_side(side):
    """BadSide(side) unless it is a side."""
    if side not in ("ones", "others"):
        raise BadSide(side)


def best_of(slate, side):
    """The Pairing in which each person of this side has the best choice left, when no right strike is left."""
    book = slate.book
    best = [(person, slate.best(person)) for person in (book.ones if side == "ones" else book.others)]
    partners = partners_of(book.persons, [(person, choice) for person, choice in best if choice != ""])
    return Pairing(book, pairs_of(book.ones, partners))


def is_strike(book, value):
    """Whether any value is a triple (person, choice, by) as strikes are, right or not."""
    if not isinstance(value, tuple) or len(value) != 3:
        return False
    person, choice, by = value
    if person not in book.persons or choice not in book[person]:
        return False
    return by != "" and by in book[person]


def lead_to_none(slate, value):
    """Whether any value is strikes that leave somebody without any choice."""
    if not isinstance(value, tuple):
        return False
    for strike in value:
        if not is_strike(slate.book, strike):
            return False
        person, choice, by = strike
        if not slate.is_right(person, choice, by):
            return False
        slate.strike(person, choice)
    return slate.is_bare()
