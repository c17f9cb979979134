"""The cheapest further sayings by which hopes come true."""

from factpairs.errors import BadHopes, BadOffers, Full, Round
from factpairs.pairs import is_pair_of
from factpairs.slates import best_pairs, struck_out, with_bound
from factpairs.texts import is_row
from factpairs.values import is_integer

MOST_OFFERS = 4
MOST_HOPES = 3
MOST_PRICE = 9


def cheapest(book, offers, hopes):
    """("choice", price, choice, reasons) of the first choice that helps, or ("none", reasons): BadOffers, BadHopes."""
    if not are_offers(book, offers):
        raise BadOffers(offers)
    if not are_hopes(book, hopes):
        raise BadHopes(hopes)
    reasons = []
    for choice in choices_in_sequence(offers):
        more = said_all(book, choice)
        if more is not None:
            failed = failed_hopes(more, hopes)
            if not failed:
                return ("choice", price_of(choice), choice, tuple(reasons))
            reasons.append((choice, failed[0]))
    return ("none", tuple(reasons))


def are_offers(book, value):
    """Whether any value is offers."""
    if not isinstance(value, tuple) or not 1 <= len(value) <= MOST_OFFERS:
        return False
    if not all([is_offer(book, offer) for offer in value]):
        return False
    sayings = [offer[:2] for offer in value]
    return all([offer < later for offer, later in zip(value, value[1:])]) and not has_equal(sayings)


def is_offer(book, value):
    """Whether any value is an offer."""
    if not isinstance(value, tuple) or len(value) != 3 or value[0] not in book.persons:
        return False
    person, row, price = value
    return is_row(row, book[person]) and is_integer(price) and 1 <= price <= MOST_PRICE


def are_hopes(book, value):
    """Whether any value is hopes."""
    if not isinstance(value, tuple) or not 1 <= len(value) <= MOST_HOPES:
        return False
    return all([is_hope(book, hope) for hope in value]) and not has_equal(value)


def is_hope(book, value):
    """Whether any value is a hope."""
    if not isinstance(value, tuple) or not value:
        return False
    if value[0] == "some":
        return len(value) == 1
    if value[0] == "alone":
        return len(value) == 2 and value[1] in book.persons
    return value[0] in ("together", "apart") and is_pair_of(value[1:], book.ones, book.others)


def has_equal(values):
    """Whether two of these values are equal."""
    return any([value in values[:at] for at, value in enumerate(values)])


def choices_in_sequence(offers):
    """All choices of these offers: by price, then by how many, then as tuples."""
    choices = [choice for many in range(len(offers) + 1) for choice in choices_of_many(offers, many)]
    return [choice for price in range(MOST_PRICE * len(offers) + 1) for choice in choices if price_of(choice) == price]


def choices_of_many(offers, many):
    """All choices of so many of these offers, ascending."""
    if many == 0:
        return [()]
    return [(offer, *choice) for at, offer in enumerate(offers)
            for choice in choices_of_many(offers[at + 1:], many - 1)]


def price_of(choice):
    """The price of a choice of offers."""
    return sum([offer[2] for offer in choice])


def said_all(book, choice):
    """The Book behind the sayings of a choice of offers, or None if they raise Round or Full."""
    try:
        for person, row, price in choice:
            book = book.said(person, row)
    except (Round, Full):
        return None
    return book


def failed_hopes(book, hopes):
    """The numbers of the hopes that do not come true by a book."""
    slate = struck_out(book, (), ())
    if slate.is_bare():
        return list(range(len(hopes)))
    return [number for number, hope in enumerate(hopes) if not comes_true(slate, hope)]


def comes_true(slate, hope):
    """Whether a hope comes true, by what strikes leave to everybody."""
    best, worst = best_pairs(slate, "ones"), best_pairs(slate, "others")
    if hope[0] == "together":
        return hope[1:] in best and hope[1:] in worst
    if hope[0] == "apart":
        return with_bound(slate, hope[1], hope[2]).is_bare()
    # In all surely steady pairings the same people are alone.
    return hope[0] == "some" or not any([hope[1] in pair for pair in best])
