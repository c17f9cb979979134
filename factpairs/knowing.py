"""What is sure of the people of two sides, whoever said it."""

from factpairs.orders import is_ahead


class Known:
    """The people of a book, and other orders than its own.

    It has what a Book has of people, choices and orders; so it can stand where no more than these is asked for.
    """

    def __init__(self, book, orders):
        self.ones = book.ones
        self.others = book.others
        self.persons = book.persons
        self.choices = book.choices
        self.orders = orders


def surely(known, person, first, second):
    """Whether a person surely would rather have the first one of two choices, by a Book or a Known."""
    choices = known.choices[person]
    return is_ahead(known.orders[person], choices.index(first), choices.index(second))


def is_open(known, person, first, second):
    """Whether these are unlike choices of a person, neither of which this person surely would rather have."""
    return first != second and not surely(known, person, first, second) and not surely(known, person, second, first)
