"""The open questions of a book, and what is sure behind answers to them."""

from factpairs.judging import doubted
from factpairs.knowing import Known, is_open
from factpairs.orders import is_ahead, spots_in, with_bit, with_pair
from factpairs.pairs import are_pairs, partners_of
from factpairs.slates import best_pairs, struck_out


class Questions:
    """The open questions of a book: `rows` of them, each a tuple (person, x, y).

    What answers leave sure is told by a mask, with two bits for each question, the first one for x ahead of y, the
    second one for y ahead of x: `facts` tells of each bit (person, place of what is ahead, place of what is behind).
    With each mask in `vain`, and with any part of it, no pairing is surely steady; with each one in `enough`, and
    with whatever more, some pairing is. `reached` leads from (mask, most) to what is_reached tells.
    """

    def __init__(self, book):
        self.book = book
        self.rows = open_questions(book)
        self.facts = []
        for person, first, second in self.rows:
            x, y = book.choices[person].index(first), book.choices[person].index(second)
            self.facts.extend([(person, x, y), (person, y, x)])
        self.vain = []
        self.enough = []
        self.reached = {}

    def known_by(self, mask):
        """The Known of what is sure by the book and by a mask."""
        orders = dict(self.book.orders)
        for bit in spots_in(mask):
            person, ahead, behind = self.facts[bit]
            orders[person] = with_bit(orders[person], ahead, behind)
        return Known(self.book, orders)

    def open_at(self, mask):
        """The places of the questions that are open."""
        return [at for at in range(len(self.rows)) if mask >> 2 * at & 3 == 0]

    def answers(self, mask, at):
        """Two masks: of what is sure behind the first answer to this question, and behind the second one."""
        return [self.with_fact(mask, 2 * at), self.with_fact(mask, 2 * at + 1)]

    def with_fact(self, mask, bit):
        """The mask of what is sure if the fact of this bit, which was open, is sure too."""
        person, ahead, behind = self.facts[bit]
        order = with_pair(self.known_by(mask).orders[person], ahead, behind)
        sure = [at for at, fact in enumerate(self.facts) if fact[0] == person and is_ahead(order, fact[1], fact[2])]
        return mask | sum([1 << at for at in sure])

    def slate(self, mask):
        """The Slate on which no right strike is left, by a mask."""
        return struck_out(self.known_by(mask), (), ())

    def is_enough(self, mask):
        """Whether some pairing is surely steady by a mask."""
        if any([mask & part == part for part in self.enough]):
            return True
        if any([mask | whole == whole for whole in self.vain]):
            return False
        if self.slate(mask).is_bare():
            self.vain.append(self.widened(mask))
            return False
        self.enough.append(self.narrowed(mask))
        return True

    def widened(self, mask):
        """A mask of this and as much more, be it against one another, with which strikes still leave somebody bare."""
        # The more is sure, the less is right to strike: so no part of such a mask brings a surely steady pairing.
        for bit in range(len(self.facts)):
            if self.slate(mask | 1 << bit).is_bare():
                mask = mask | 1 << bit
        return mask

    def narrowed(self, mask):
        """A mask of as little of this as can be with which strikes still leave nobody bare."""
        for bit in spots_in(mask):
            if not self.slate(mask & ~(1 << bit)).is_bare():
                mask = mask & ~(1 << bit)
        return mask

    def is_reached(self, mask, most):
        """Whether so many asks are enough, at the most, to come from a mask to a surely steady pairing."""
        # Whoever told a whole list each leaves some pairing surely steady.
        if most >= len(self.open_at(mask)) or self.is_enough(mask):
            return True
        if most == 0:
            return False
        if (mask, most) not in self.reached:
            self.reached[(mask, most)] = self.first_ask(mask, most) is not None
        return self.reached[(mask, most)]

    def first_ask(self, mask, most):
        """The place of a question that can be asked first of so many, or None."""
        for at in self.open_at(mask):
            first, second = self.answers(mask, at)
            if self.is_reached(first, most - 1) and self.is_reached(second, most - 1):
                return at
        return None

    def least(self):
        """The least number of asks that some plan needs."""
        most = 0
        while not self.is_reached(0, most):
            most += 1
        return most

    def plan(self, mask, most):
        """A plan of so many asks at the most, that are enough."""
        if self.is_enough(mask):
            return ("pairs", best_pairs(self.slate(mask), "ones"))
        at = self.first_ask(mask, most)
        first, second = self.answers(mask, at)
        return ("ask", self.rows[at], self.plan(first, most - 1), self.plan(second, most - 1))

    def is_plan(self, value, mask, most):
        """Whether any value is a plan of so many asks at the most."""
        if not isinstance(value, tuple):
            return False
        if len(value) == 2:
            return value[0] == "pairs" and self.are_sure(value[1], mask)
        if len(value) != 4 or value[0] != "ask" or most == 0:
            return False
        places = [at for at in self.open_at(mask) if self.rows[at] == value[1]]
        if not places:
            return False
        first, second = self.answers(mask, places[0])
        return self.is_plan(value[2], first, most - 1) and self.is_plan(value[3], second, most - 1)

    def are_sure(self, value, mask):
        """Whether any value is the pairs of a pairing that is surely steady by a mask."""
        if not are_pairs(value, self.book.ones, self.book.others):
            return False
        return doubted(self.known_by(mask), partners_of(self.book.persons, value)) == ()


def open_questions(book):
    """All open questions of a book."""
    rows = [(person, first, second) for person in book.persons
            for at, first in enumerate(book[person]) for second in book[person][at + 1:]]
    return [(person, first, second) for person, first, second in rows if is_open(book, person, first, second)]
