"""What is left to people while choices are struck, one by one."""

from factpairs.knowing import surely
from factpairs.orders import all_spots, spots_in
from factpairs.pairs import pairs_of, partners_of


class Slate:
    """The choices of each person that are not struck, by a Book or a Known (knowing.py).

    `left` leads from each person to a mask of the own choices (orders.py), `spots` from each person to the
    place among the choices of the other side.
    """

    def __init__(self, known):
        self.known = known
        self.left = {person: all_spots(order) for person, order in known.orders.items()}
        self.spots = {}
        for side in (known.ones, known.others):
            for at, person in enumerate(side):
                self.spots[person] = at

    def spot(self, person, choice):
        """The place of a choice among those of a person."""
        return len(self.known.choices[person]) - 1 if choice == "" else self.spots[choice]

    def choices_left(self, person):
        """The choices of a person that are not struck, in sequence."""
        return tuple([self.known.choices[person][at] for at in spots_in(self.left[person])])

    def is_bare(self):
        """Whether somebody has no choice left."""
        return 0 in list(self.left.values())

    def strike(self, person, choice):
        """Strikes a choice of a person, and if it is a person, the person as a choice of theirs, too."""
        self.drop(person, choice)
        if choice != "":
            self.drop(choice, person)

    def drop(self, person, choice):
        """Takes a choice of a person away, this way alone."""
        self.left[person] = self.left[person] & ~(1 << self.spot(person, choice))

    def best(self, person):
        """The first choice left to a person than which the person surely would rather have no other one left."""
        order = self.known.orders[person]
        spots = [at for at in spots_in(self.left[person]) if order[at] & self.left[person] == 0]
        return self.known.choices[person][spots[0]]

    def struck_by(self, person, by):
        """A mask of the choices of a person that strikes by this one of the other side are right to strike now."""
        if self.known.orders[by][self.spots[person]] & self.left[by] != 0:
            return 0
        kept = self.known.orders[person][self.spots[by]] | 1 << self.spots[by]
        return self.left[person] & ~kept

    def is_right(self, person, choice, by):
        """Whether this strike is right now."""
        return self.struck_by(person, by) >> self.spot(person, choice) & 1 == 1


def first_slate(known, bound, barred):
    """The Slate on which is struck what is struck at first."""
    slate = Slate(known)
    for one in known.ones:
        for other in known.others:
            if not surely(known, one, other, "") or not surely(known, other, one, ""):
                slate.strike(one, other)
    for one, other in barred:
        slate.strike(one, other)
    for one, other in bound:
        bind(slate, one, other)
    return slate


def bind(slate, one, other):
    """Strikes what this pair, if it is bound, takes away at first."""
    for person, partner in ((one, other), (other, one)):
        for choice in slate.known.choices[person]:
            if choice != partner:
                slate.strike(person, choice)


def struck_out(known, bound, barred):
    """The Slate on which no right strike is left."""
    slate = first_slate(known, bound, barred)
    strike_out(slate)
    return slate


def with_bound(slate, one, other):
    """A slate like this one, on which no right strike is left, with this pair bound."""
    again = copied(slate)
    bind(again, one, other)
    strike_out(again)
    return again


def with_barred(slate, one, other):
    """A slate like this one, on which no right strike is left, with this pair barred."""
    again = copied(slate)
    again.strike(one, other)
    strike_out(again)
    return again


def copied(slate):
    """A slate on which the same is struck."""
    again = Slate(slate.known)
    again.left = dict(slate.left)
    return again


def strike_out(slate):
    """Strikes until no right strike is left: the strikes, in sequence."""
    strikes = []
    # Only what is struck of the choices of somebody lets strikes by them become right.
    waiting = list(slate.known.persons)
    while waiting:
        by = waiting.pop()
        for person in slate.known.choices[by][:-1]:
            for at in spots_in(slate.struck_by(person, by)):
                choice = slate.known.choices[person][at]
                slate.strike(person, choice)
                strikes.append((person, choice, by))
                waiting.extend([person, choice] if choice != "" else [person])
    return tuple(strikes)


def needed(slate, strikes):
    """The first of these strikes, as many as leave somebody without any choice."""
    many = 0
    while not slate.is_bare():
        person, choice = strikes[many][:2]
        slate.strike(person, choice)
        many += 1
    return strikes[:many]


def best_pairs(slate, side):
    """The pairs in which each person of this side has the best choice left, when no right strike is left."""
    known = slate.known
    best = [(person, slate.best(person)) for person in (known.ones if side == "ones" else known.others)]
    partners = partners_of(known.persons, [(person, choice) for person, choice in best if choice != ""])
    return pairs_of(known.ones, partners)
