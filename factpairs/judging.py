"""Whether a pairing is steady by all lists of its book, by some, or by none."""

from factpairs.knowing import surely
from factpairs.lists import are_lists, leavers, leaving
from factpairs.orders import some_row


def judged(pairing):
    """What is sure of a pairing: ("sure",), ("open", lists, others, who) or ("never", who)."""
    never = refusing(pairing.book, pairing.partners)
    leave = doubted(pairing.book, pairing.partners)
    if never:
        return ("never", never[0])
    if not leave:
        return ("sure",)
    return ("open", lists_with(pairing, surely_liked), lists_with(pairing, perhaps_liked), leave[0])


def shows_judged(pairing, value):
    """Whether any value is such a result as is told for judged."""
    if not isinstance(value, tuple):
        return False
    if len(value) == 1:
        return value[0] == "sure" and is_sure(pairing)
    if len(value) == 2:
        return value[0] == "never" and value[1] in refusing(pairing.book, pairing.partners)
    return len(value) == 4 and value[0] == "open" and shows_open(pairing, value[1], value[2], value[3])


def shows_open(pairing, lists, others, who):
    """Whether a pairing is steady by these lists, and is left by those who are told by the other ones."""
    book = pairing.book
    if not are_lists(book, lists) or not are_lists(book, others):
        return False
    return leaving(book, lists, pairing.pairs) == () and who in leaving(book, others, pairing.pairs)


def is_sure(pairing):
    """Whether a pairing is surely steady."""
    return doubted(pairing.book, pairing.partners) == ()


def refusing(known, partners):
    """Those who surely leave a pairing, by a Book or a Known."""
    return leavers(known, {person: surely_liked(known, person, partners[person]) for person in known.persons})


def doubted(known, partners):
    """Those of whom it is not sure that they do not leave a pairing, by a Book or a Known."""
    return leavers(known, {person: perhaps_liked(known, person, partners[person]) for person in known.persons})


def surely_liked(known, person, held):
    """The choices that this person surely would rather have than the one they have."""
    return [choice for choice in known.choices[person] if surely(known, person, choice, held)]


def perhaps_liked(known, person, held):
    """The choices than which this person does not surely rather have the one they have."""
    return [choice for choice in known.choices[person] if choice != held and not surely(known, person, held, choice)]


def lists_with(pairing, liked):
    """Lists in which each person has just those ahead of whom they have that the function `liked` tells."""
    # They keep the book if it tells all who surely are ahead of whom they have, and none who surely is behind.
    book = pairing.book
    lists = []
    for person in book.persons:
        held = pairing[person]
        row = [book[person][at] for at in some_row(book.orders[person])]
        told = liked(book, person, held)
        ahead = [choice for choice in row if choice in told]
        behind = [choice for choice in row if choice != held and choice not in told]
        lists.append((*ahead, held, *behind))
    return tuple(lists)
