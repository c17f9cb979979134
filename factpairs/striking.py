"""Strikes, and the surely steady pairings to which they lead."""

from factpairs.errors import BadBarred, BadBound, BadSide
from factpairs.pairings import Pairing
from factpairs.pairs import are_ascending_pairs, are_pairs
from factpairs.slates import best_pairs, first_slate, needed, strike_out, struck_out


def unstruck(book, *, bound=(), barred=()):
    """The choices of each person that are not struck when no right strike is left: BadBound, BadBarred."""
    refuse_bound_or_barred(book, bound, barred)
    slate = struck_out(book, bound, barred)
    return tuple([slate.choices_left(person) for person in book.persons])


def steadied(book, *, bound=(), barred=(), side="ones"):
    """("pairing", pairing), the best for this side, or ("none", strikes): BadBound, BadBarred, BadSide."""
    refuse_bound_or_barred(book, bound, barred)
    refuse_no_side(side)
    slate = first_slate(book, bound, barred)
    strikes = strike_out(slate)
    if slate.is_bare():
        return ("none", needed(first_slate(book, bound, barred), strikes))
    return ("pairing", Pairing(book, best_pairs(slate, side)))


def shows_steadied(book, value, *, bound=(), barred=(), side="ones"):
    """Whether any value is such a result as is told for steadied: BadBound, BadBarred, BadSide."""
    told = steadied(book, bound=bound, barred=barred, side=side)
    if not isinstance(value, tuple) or len(value) != 2:
        return False
    if value[0] == "pairing":
        return value == told
    return value[0] == "none" and lead_to_none(first_slate(book, bound, barred), value[1])


def refuse_bound_or_barred(book, bound, barred):
    """BadBound(bound), BadBarred(barred) unless they are pairs that can be so."""
    if not are_pairs(bound, book.ones, book.others):
        raise BadBound(bound)
    if not are_ascending_pairs(barred, book.ones, book.others):
        raise BadBarred(barred)


def refuse_no_side(side):
    """BadSide(side) unless it is a side."""
    if side not in ("ones", "others"):
        raise BadSide(side)


def is_strike(known, value):
    """Whether any value is a triple (person, choice, by) as strikes are, right or not."""
    if not isinstance(value, tuple) or len(value) != 3:
        return False
    person, choice, by = value
    if person not in known.persons or choice not in known.choices[person]:
        return False
    return by != "" and by in known.choices[person]


def lead_to_none(slate, value):
    """Whether any value is strikes that leave somebody without any choice."""
    if not isinstance(value, tuple):
        return False
    for strike in value:
        if not is_strike(slate.known, strike):
            return False
        person, choice, by = strike
        if not slate.is_right(person, choice, by):
            return False
        slate.strike(person, choice)
    return slate.is_bare()
