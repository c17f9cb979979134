"""Lists that keep a book, and what comes of pairings by them."""

from factpairs.books import refuse_no_person
from factpairs.errors import BadLists, BadPairs, NoList
from factpairs.orders import keeps
from factpairs.pairs import are_pairs, pairs_of, partners_of
from factpairs.texts import is_row, spots_of
from factpairs.values import is_number_below


def is_list(book, person, value):
    """Whether any value is a list of this person that keeps the book."""
    choices = book[person]
    if not is_row(value, choices) or len(value) != len(choices):
        return False
    return keeps(book.orders[person], spots_of(value, choices))


def are_lists(book, value):
    """Whether any value is lists of the book."""
    if not isinstance(value, tuple) or len(value) != len(book.persons):
        return False
    return all([is_list(book, person, row) for person, row in zip(book.persons, value)])


def how_many(book, person):
    """How many lists of this person keep the book."""
    refuse_no_person(book, person)
    return ways_to_end(book.orders[person])[0]


def nth(book, person, number):
    """The list with this number of this person: NoList."""
    choices = book[person]
    order = book.orders[person]
    ways = ways_to_end(order)
    if not is_number_below(number, ways[0]):
        raise NoList(number)
    row = []
    stood = 0
    while len(row) < len(choices):
        at, number = next_spot(order, ways, stood, number)
        row.append(choices[at])
        stood = stood | 1 << at
    return tuple(row)


def next_spot(order, ways, stood, number):
    """(spot, number): what follows in the list with this number, and its number among those that go on so."""
    spots = free_spots(order, stood)
    at = 0
    while number >= ways[stood | 1 << spots[at]]:
        number = number - ways[stood | 1 << spots[at]]
        at += 1
    return spots[at], number


def free_spots(order, stood):
    """The spots that can stand next, ascending, behind those of this mask."""
    spots = list(range(len(order)))
    return [at for at in spots if stood >> at & 1 == 0 and order[at] | stood == stood]


def ways_to_end(order):
    """For each mask of spots that can stand first, in how many sequences the others can follow them."""
    # The lists of thirteen choices may be too many to be gone through, but there are no more than 8192 such masks.
    longer = {}
    layer = [0]
    while layer:
        for stood in layer:
            longer[stood] = [stood | 1 << at for at in free_spots(order, stood)]
        layer = list({mask: True for shorter in layer for mask in longer[shorter]})
    ways = {}
    for stood, masks in list(longer.items())[::-1]:
        ways[stood] = sum([ways[mask] for mask in masks]) if masks else 1
    return ways


def leaving(book, lists, pairs):
    """Those who leave this pairing by these lists: BadLists, BadPairs."""
    listed = lists_of(book, lists)
    if not are_pairs(pairs, book.ones, book.others):
        raise BadPairs(pairs)
    held = partners_of(book.persons, pairs)
    return leavers(book, {person: row[:row.index(held[person])] for person, row in listed.items()})


def leavers(book, liked):
    """Those who leave a pairing, if each person would rather have those that `liked` tells than whom they have."""
    leave = [(person,) for person in book.persons if "" in liked[person]]
    for one in book.ones:
        for other in book.others:
            if other in liked[one] and one in liked[other]:
                leave.append((one, other))
    return tuple(leave)


def usual(book, lists):
    """The pairs of the pairing steady by these lists that is best for the ones: BadLists."""
    listed = lists_of(book, lists)
    held = {other: "" for other in book.others}
    tried = {one: 0 for one in book.ones}
    free = list(book.ones)
    while free:
        one = free.pop()
        choice = listed[one][tried[one]]
        tried[one] += 1
        if choice == "":
            continue
        if prefers(listed[choice], one, held[choice]):
            if held[choice] != "":
                free.append(held[choice])
            held[choice] = one
        else:
            free.append(one)
    partners = partners_of(book.ones, [(held[other], other) for other in book.others if held[other] != ""])
    return pairs_of(book.ones, partners)


def lists_of(book, lists):
    """A dict of the list of each person: BadLists."""
    if not are_lists(book, lists):
        raise BadLists(lists)
    return {person: row for person, row in zip(book.persons, lists)}


def prefers(row, choice, other):
    """Whether `choice` stands ahead of `other` in a list."""
    return row.index(choice) < row.index(other)
