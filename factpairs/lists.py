"""Lists that keep a book, and what comes of pairings by them."""

from factpairs.books import refuse_no_person
from factpairs.counting import ways
from factpairs.errors import BadLists, BadPairs, NoList
from factpairs.orders import all_spots, first_spots, keeps
from factpairs.pairs import are_pairs, pairs_of, partners_of
from factpairs.texts import is_row, spots_of
from factpairs.values import is_number_below


def is_list(book, person, value):
    """Whether any value is a list of this person that keeps the book."""
    choices = book[person]
    if not is_row(value, choices) or len(value) != len(choices):
        return False
    return keeps(book.orders[person], spots_of(value, choices))


def are_lists(book, value):
    """Whether any value is lists of the book."""
    if not isinstance(value, tuple) or len(value) != len(book.persons):
        return False
    return all([is_list(book, person, row) for person, row in zip(book.persons, value)])


def how_many(book, person):
    """How many lists of this person keep the book."""
    refuse_no_person(book, person)
    order = book.orders[person]
    return ways(order, all_spots(order), {})


def nth(book, person, number):
    """The list with this number of this person: NoList."""
    choices = book[person]
    order = book.orders[person]
    rest = all_spots(order)
    known = {}
    if not is_number_below(number, ways(order, rest, known)):
        raise NoList(number)
    row = []
    while rest != 0:
        at, number = next_spot(order, rest, number, known)
        row.append(choices[at])
        rest = rest & ~(1 << at)
    return tuple(row)


def next_spot(order, rest, number, known):
    """(spot, number): what comes next in the list with this number, and its number among those that go on so."""
    spots = first_spots(order, rest)
    at = 0
    while number >= ways(order, rest & ~(1 << spots[at]), known):
        number = number - ways(order, rest & ~(1 << spots[at]), known)
        at += 1
    return spots[at], number


def leaving(book, lists, pairs):
    """Those who leave this pairing by these lists: BadLists, BadPairs."""
    listed = lists_of(book, lists)
    if not are_pairs(pairs, book.ones, book.others):
        raise BadPairs(pairs)
    held = partners_of(book.persons, pairs)
    return leavers(book, {person: row[:row.index(held[person])] for person, row in listed.items()})


def leavers(book, liked):
    """Those who leave a pairing, if each person would rather have those that `liked` tells than whom they have."""
    leave = [(person,) for person in book.persons if "" in liked[person]]
    for one in book.ones:
        for other in book.others:
            if other in liked[one] and one in liked[other]:
                leave.append((one, other))
    return tuple(leave)


def usual(book, lists):
    """The pairs of the pairing steady by these lists that is best for the ones: BadLists."""
    listed = lists_of(book, lists)
    held = {other: "" for other in book.others}
    tried = {one: 0 for one in book.ones}
    free = list(book.ones)
    while free:
        one = free.pop()
        choice = listed[one][tried[one]]
        tried[one] += 1
        if choice == "":
            continue
        if prefers(listed[choice], one, held[choice]):
            if held[choice] != "":
                free.append(held[choice])
            held[choice] = one
        else:
            free.append(one)
    partners = partners_of(book.ones, [(held[other], other) for other in book.others if held[other] != ""])
    return pairs_of(book.ones, partners)


def lists_of(book, lists):
    """A dict of the list of each person: BadLists."""
    if not are_lists(book, lists):
        raise BadLists(lists)
    return {person: row for person, row in zip(book.persons, lists)}


def prefers(row, choice, other):
    """Whether `choice` stands ahead of `other` in a list."""
    return row.index(choice) < row.index(other)
