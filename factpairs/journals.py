"""Journals: what was done on a hall, as a text."""

from factpairs.books import Book
from factpairs.deeds import deed_in, do_deed
from factpairs.errors import BadBook, BadJournal, PairError
from factpairs.halls import Hall


def journal(hall):
    """The text that tells with which book a hall began, and each deed that stands."""
    return "\n".join([hall.began.text, "hall", *[line for line, book, pairing in hall.stood]])


def read_journal(text):
    """A hall on which was done what a journal tells: BadJournal."""
    if not isinstance(text, str):
        raise BadJournal(0)
    lines = text.split("\n")
    if "hall" not in lines:
        raise BadJournal(len(lines) + 1)
    at = lines.index("hall")
    hall = begun(lines[:at])
    for number, line in enumerate(lines[at + 1:]):
        if not is_done(hall, line):
            raise BadJournal(at + number + 2)
    return hall


def begun(lines):
    """A hall that begins with the book of these lines: BadJournal."""
    try:
        return Hall(Book("\n".join(lines)))
    except BadBook as error:
        # Of no lines at all the first one is wrong, which is also the number of the line that ends them.
        raise BadJournal(error.value)


def is_done(hall, line):
    """Does the deed of a line, and tells whether it is one and is not refused."""
    deed = deed_in(line)
    if deed is None:
        return False
    try:
        do_deed(hall, deed)
    except PairError:
        return False
    return True
