"""Whether a pairing is steady by all lists of its book, by some, or by none."""

from factpairs.lists import are_lists, leavers, leaving
from factpairs.orders import some_row


def judged(pairing):
    """What is sure of a pairing: ("sure",), ("open", lists, others, who) or ("never", who)."""
    surely, perhaps = surely_liked(pairing), perhaps_liked(pairing)
    never = leavers(pairing.book, surely)
    doubted = leavers(pairing.book, perhaps)
    if never:
        return ("never", never[0])
    if not doubted:
        return ("sure",)
    return ("open", lists_with(pairing, surely), lists_with(pairing, perhaps), doubted[0])


def shows_judged(pairing, value):
    """Whether any value is such a result as is told for judged."""
    if not isinstance(value, tuple):
        return False
    if len(value) == 1:
        return value[0] == "sure" and is_sure(pairing)
    if len(value) == 2:
        return value[0] == "never" and value[1] in leavers(pairing.book, surely_liked(pairing))
    return len(value) == 4 and value[0] == "open" and shows_open(pairing, value[1], value[2], value[3])


def shows_open(pairing, lists, others, who):
    """Whether a pairing is steady by these lists, and is left by those who are told by the other ones."""
    book = pairing.book
    if not are_lists(book, lists) or not are_lists(book, others):
        return False
    return leaving(book, lists, pairing.pairs) == () and who in leaving(book, others, pairing.pairs)


def is_sure(pairing):
    """Whether a pairing is surely steady."""
    return leavers(pairing.book, perhaps_liked(pairing)) == ()


def surely_liked(pairing):
    """A dict of the choices that each person surely would rather have than whom they have."""
    book = pairing.book
    return {person: book.ahead(person, pairing[person]) for person in book.persons}


def perhaps_liked(pairing):
    """A dict of the choices than which each person does not surely rather have whom they have."""
    book = pairing.book
    liked = {}
    for person in book.persons:
        held = pairing[person]
        liked[person] = [choice for choice in book[person]
                         if choice != held and (person, held, choice) not in book]
    return liked


def lists_with(pairing, liked):
    """Lists in which each person has just those ahead of whom they have that `liked` tells."""
    # They keep the book if `liked` tells all who surely are ahead of whom they have, and none who surely is behind.
    book = pairing.book
    lists = []
    for person in book.persons:
        held = pairing[person]
        row = [book[person][at] for at in some_row(book.orders[person])]
        ahead = [choice for choice in row if choice in liked[person]]
        behind = [choice for choice in row if choice != held and choice not in liked[person]]
        lists.append((*ahead, held, *behind))
    return tuple(lists)
