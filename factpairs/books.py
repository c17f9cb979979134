"""Books of what people say they would rather."""

from factpairs.errors import BadChoice, BadRow, Full, NoPerson, NoSaying, OtherPeople, Round
from factpairs.knowing import surely
from factpairs.orders import is_within, nearest, shared, spots_behind, spots_in, with_row
from factpairs.texts import MOST_SAYINGS, choices_of, is_row, lines_of, read_sayings, read_side, spots_of, text_of
from factpairs.values import is_number_below


class Book:
    """What the people of two sides said.

    Beside what callers use, it has `choices` and `orders`: dicts that lead from each person to the tuple of
    the choices, and to the order (orders.py) of what is sure of them.
    """

    def __init__(self, text):
        lines = lines_of(text)
        self.text = text
        self.ones = read_side(lines, 0, "ones", ())
        self.others = read_side(lines, 1, "others", self.ones)
        self.persons = self.ones + self.others
        self.choices = choices_of(self.ones, self.others)
        self.sayings, self.orders = read_sayings(lines, 2, self.choices)

    def __eq__(self, other):
        return isinstance(other, Book) and self.text == other.text

    def __len__(self):
        return len(self.sayings)

    def __getitem__(self, person):
        refuse_no_person(self, person)
        return self.choices[person]

    def __iter__(self):
        raise TypeError("a book is not gone over")

    def __contains__(self, value):
        if not isinstance(value, tuple) or len(value) != 3:
            return False
        person, first, second = value
        if person not in self.persons:
            return False
        choices = self.choices[person]
        return first in choices and second in choices and surely(self, person, first, second)

    def __or__(self, other):
        if not isinstance(other, Book):
            return NotImplemented
        refuse_other_people(self, other)
        added = [saying for saying in other.sayings if saying not in self.sayings]
        orders = dict(self.orders)
        for person, row in added:
            order = with_row(orders[person], spots_of(row, self.choices[person]))
            if order is None:
                raise Round((person, row))
            orders[person] = order
        return made_book(self.ones, self.others, (*self.sayings, *added))

    def __and__(self, other):
        if not isinstance(other, Book):
            return NotImplemented
        refuse_other_people(self, other)
        sayings = []
        for person in self.persons:
            choices = self.choices[person]
            common = nearest(shared(self.orders[person], other.orders[person]))
            sayings.extend([(person, (choices[first], choices[second])) for first, second in common])
        return made_book(self.ones, self.others, sayings)

    def __le__(self, other):
        if not isinstance(other, Book):
            return NotImplemented
        refuse_other_people(self, other)
        return all([is_within(self.orders[person], other.orders[person]) for person in self.persons])

    def __invert__(self):
        return made_book(self.others, self.ones, self.sayings)

    def ahead(self, person, choice):
        """The choices that this person surely would rather have than this one."""
        at = spot_of(self, person, choice)
        return tuple([self.choices[person][spot] for spot in spots_in(self.orders[person][at])])

    def said(self, person, row):
        """The Book with this saying behind the others."""
        choices = self[person]
        if not is_row(row, choices):
            raise BadRow(row)
        if with_row(self.orders[person], spots_of(row, choices)) is None:
            raise Round((person, row))
        return made_book(self.ones, self.others, (*self.sayings, (person, row)))

    def unsaid(self, number):
        """The Book without the saying of this number."""
        if not is_number_below(number, len(self.sayings)):
            raise NoSaying(number)
        return made_book(self.ones, self.others, self.sayings[:number] + self.sayings[number + 1:])

    def places(self, person, choice):
        """(first, last): at which places this choice can stand in lists of this person."""
        at = spot_of(self, person, choice)
        order = self.orders[person]
        return len(spots_in(order[at])), len(order) - 1 - len(spots_behind(order, at))


def refuse_no_person(book, person):
    """NoPerson(person) unless it is a person of the book."""
    if person not in book.persons:
        raise NoPerson(person)


def refuse_other_people(book, other):
    """OtherPeople(other) unless both books have the same ones and others, alike in sequence."""
    if book.ones != other.ones or book.others != other.others:
        raise OtherPeople(other)


def spot_of(book, person, choice):
    """The place of a choice among those of a person: NoPerson, BadChoice."""
    choices = book[person]
    if choice not in choices:
        raise BadChoice(choice)
    return choices.index(choice)


def made_book(ones, others, sayings):
    """The Book of these people and sayings: Full."""
    if len(sayings) > MOST_SAYINGS:
        raise Full(MOST_SAYINGS)
    return Book(text_of(ones, others, sayings))
