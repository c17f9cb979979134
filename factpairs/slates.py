"""What is left to people while choices are struck, one by one."""

from factpairs.orders import all_spots, spots_in


class Slate:
    """The choices of each person that are not struck.

    `left` leads from each person to a mask of the own choices (orders.py), `spots` from each person to the
    place among the choices of the other side.
    """

    def __init__(self, book):
        self.book = book
        self.left = {person: all_spots(order) for person, order in book.orders.items()}
        self.spots = {}
        for side in (book.ones, book.others):
            for at, person in enumerate(side):
                self.spots[person] = at

    def spot(self, person, choice):
        """The place of a choice among those of a person."""
        return len(self.book.choices[person]) - 1 if choice == "" else self.spots[choice]

    def choices_left(self, person):
        """The choices of a person that are not struck, in sequence."""
        return tuple([self.book.choices[person][at] for at in spots_in(self.left[person])])

    def is_bare(self):
        """Whether somebody has no choice left."""
        return 0 in list(self.left.values())

    def strike(self, person, choice):
        """Strikes a choice of a person, and if it is a person, the person as a choice of theirs, too."""
        self.drop(person, choice)
        if choice != "":
            self.drop(choice, person)

    def drop(self, person, choice):
        """Takes a choice of a person away, this way alone."""
        self.left[person] = self.left[person] & ~(1 << self.spot(person, choice))

    def best(self, person):
        """The first choice left to a person than which the person surely would rather have no other one left."""
        order = self.book.orders[person]
        spots = [at for at in spots_in(self.left[person]) if order[at] & self.left[person] == 0]
        return self.book.choices[person][spots[0]]

    def struck_by(self, person, by):
        """A mask of the choices of a person that strikes by this one of the other side are right to strike now."""
        if self.book.orders[by][self.spots[person]] & self.left[by] != 0:
            return 0
        kept = self.book.orders[person][self.spots[by]] | 1 << self.spots[by]
        return self.left[person] & ~kept

    def is_right(self, person, choice, by):
        """Whether this strike is right now."""
        return self.struck_by(person, by) >> self.spot(person, choice) & 1 == 1


def first_slate(book, bound, barred):
    """The Slate on which is struck what is struck at first."""
    slate = Slate(book)
    for one in book.ones:
        for other in book.others:
            if (one, other, "") not in book or (other, one, "") not in book:
                slate.strike(one, other)
    for one, other in barred:
        slate.strike(one, other)
    for one, other in bound:
        for person, partner in ((one, other), (other, one)):
            for choice in book[person]:
                if choice != partner:
                    slate.strike(person, choice)
    return slate


def strike_out(slate):
    """Strikes until no right strike is left: the strikes, in sequence."""
    strikes = []
    # Only what is struck of the choices of somebody lets strikes by them become right.
    waiting = list(slate.book.persons)
    while waiting:
        by = waiting.pop()
        for person in slate.book.choices[by][:-1]:
            for at in spots_in(slate.struck_by(person, by)):
                choice = slate.book.choices[person][at]
                slate.strike(person, choice)
                strikes.append((person, choice, by))
                waiting.extend([person, choice] if choice != "" else [person])
    return tuple(strikes)


def needed(slate, strikes):
    """The first of these strikes, as many as leave somebody without any choice."""
    many = 0
    while not slate.is_bare():
        person, choice = strikes[many][:2]
        slate.strike(person, choice)
        many += 1
    return strikes[:many]
