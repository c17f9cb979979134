"""Whose words would make a pairing sure, and which words do."""

from factpairs.books import refuse_no_person
from factpairs.covers import fewest
from factpairs.errors import NotSure
from factpairs.judging import doubted, is_sure, refusing
from factpairs.knowing import is_open
from factpairs.slates import struck_out
from factpairs.texts import MOST_SAYINGS


def doubts(pairing):
    """What keeps a pairing from being surely steady."""
    return doubted(pairing.book, pairing.partners)


def speakers(pairing):
    """("never", who), or the fewest persons who settle all doubts, and doubts that need as many: ("speakers", ..)."""
    never = refusing(pairing.book, pairing.partners)
    if never:
        return ("never", never[0])
    told = doubts(pairing)
    settling = settlers_of(pairing, told)
    persons, apart = fewest(settling)
    return ("speakers", tuple([person for person in pairing.book.persons if person in persons]),
            tuple([doubt for doubt in told if doubt in apart]))


def shows_speakers(pairing, value):
    """Whether any value is such a result as is told for speakers."""
    if not isinstance(value, tuple):
        return False
    if len(value) == 2:
        return value[0] == "never" and value[1] in refusing(pairing.book, pairing.partners)
    if len(value) != 3 or value[0] != "speakers":
        return False
    told = doubts(pairing)
    persons, apart = value[1:]
    if not is_part(persons, pairing.book.persons) or not is_part(apart, told) or len(persons) != len(apart):
        return False
    # No fewer persons can settle doubts no two of which one person can settle: so as many are the fewest.
    settling = settlers_of(pairing, told)
    # A doubt that nobody can settle is not met by anybody.
    settled = all([are_met(settling[doubt], persons) for doubt in told])
    return settled and not any([are_met(settling[one], settling[other])
                                for at, one in enumerate(apart) for other in apart[:at]])


def spare(pairing):
    """The numbers of the sayings without which, taken by themselves, the pairing is surely steady: NotSure."""
    if not is_sure(pairing):
        raise NotSure(pairing)
    book = pairing.book
    return tuple([number for number in range(len(book)) if is_sure(pairing.on(book.unsaid(number)))])


def bringing(book, person):
    """The rows of two choices by which, said by this person, there is a surely steady pairing: NoPerson."""
    refuse_no_person(book, person)
    if len(book) == MOST_SAYINGS:
        return ()
    choices = book[person]
    rows = [(first, second) for first in choices for second in choices if is_open(book, person, first, second)]
    return tuple([row for row in rows if not struck_out(book.said(person, row), (), ()).is_bare()])


def settlers_of(pairing, told):
    """A dict of the persons who can settle each of these doubts."""
    return {doubt: settlers(pairing, doubt) for doubt in told}


def settlers(pairing, doubt):
    """The persons who can settle a doubt."""
    # Who doubts whether to stay would be alone instead; of two who doubt each would have the other.
    instead = [""] if len(doubt) == 1 else [doubt[1], doubt[0]]
    return [person for person, choice in zip(doubt, instead) if (person, choice, pairing[person]) not in pairing.book]


def is_part(value, whole):
    """Whether any value is a tuple of some parts of this one, in its sequence."""
    return isinstance(value, tuple) and value == tuple([part for part in whole if part in value])


def are_met(some, others):
    """Whether somebody stands in both rows."""
    return any([person in others for person in some])
