"""Halls: books of sayings in use, with a pairing."""

from factpairs.errors import BadPair, NoneSure, NothingToRedo, NothingToUndo, NotTogether, NoTrial, Taken
from factpairs.judging import judged
from factpairs.pairings import Pairing
from factpairs.pairs import ascending, is_pair_of
from factpairs.striking import steadied
from factpairs.texts import word_of


class Hall:
    """A book with what is said of it, and who is together now.

    Beside what callers use, it has `began`: the book with which it began; `stood`: of each deed that stands its line
    in a journal, and the book and the pairing ahead of it; `undone`: of each deed that can be done again, the next one
    at the end, its line, and the book and the pairing behind it; `block`: the innermost Trial that has not ended.
    """

    def __init__(self, book):
        self.book = book
        self.pairing = Pairing(book, ())
        self.done = 0
        self.began = book
        self.stood = ()
        self.undone = ()
        self.block = None

    def __eq__(self, other):
        return isinstance(other, Hall) and self.book == other.book and self.pairing == other.pairing

    def __len__(self):
        return len(self.pairing)

    def __getitem__(self, person):
        return self.pairing[person]

    def __iter__(self):
        raise TypeError("a hall is not gone over")

    def say(self, person, row):
        """Says this saying behind the others: NoPerson, BadRow, Round, Full."""
        book = self.book.said(person, row)
        self.stand(" ".join(["say", person, *[word_of(choice) for choice in row]]), book, self.pairing.on(book))

    def unsay(self, number):
        """Takes the saying of this number away: NoSaying."""
        book = self.book.unsaid(number)
        self.stand(f"unsay {number}", book, self.pairing.on(book))

    def unite(self, one, other):
        """Brings both together: BadPair, Taken."""
        refuse_no_pair(self.book, one, other)
        for person in (one, other):
            if self[person] != "":
                raise Taken(person)
        pairs = ascending([*self.pairing.pairs, (one, other)])
        self.stand(f"unite {one} {other}", self.book, Pairing(self.book, pairs))

    def part(self, one, other):
        """Parts both: BadPair, NotTogether."""
        refuse_no_pair(self.book, one, other)
        if self[one] != other:
            raise NotTogether((one, other))
        pairs = tuple([pair for pair in self.pairing.pairs if pair != (one, other)])
        self.stand(f"part {one} {other}", self.book, Pairing(self.book, pairs))

    def settle(self):
        """Pairs all as in the best surely steady pairing for the ones, and returns its pairs: NoneSure."""
        told = steadied(self.book)
        if told[0] == "none":
            raise NoneSure(self.book)
        self.stand("settle", self.book, told[1])
        return self.pairing.pairs

    def word(self):
        """What judged tells first of the pairing now."""
        return judged(self.pairing)[0]

    def undo(self):
        """Takes the last deed back that stands: NothingToUndo."""
        if not self.stood:
            raise NothingToUndo(None)
        line, book, pairing = self.stood[-1]
        undone = (*self.undone, (line, self.book, self.pairing))
        self.turn(self.stood[:-1], undone, book, pairing)

    def redo(self):
        """Does the deed again that was taken back last: NothingToRedo."""
        if not self.undone:
            raise NothingToRedo(None)
        line, book, pairing = self.undone[-1]
        stood = (*self.stood, (line, self.book, self.pairing))
        self.turn(stood, self.undone[:-1], book, pairing)

    def trial(self):
        """What a `with` enters: a block behind which all is as ahead of it, if it is not kept."""
        return Trial(self)

    def keep(self):
        """Has the innermost block kept, if no error leaves it: NoTrial."""
        block = self.block
        if block is None:
            raise NoTrial(None)
        block.kept = True

    def tried(self, look, *, keep=False):
        """What this function tells of the hall within a block, which is kept if keep is True."""
        with self.trial() as held:
            told = look(held)
            if keep is True:
                held.keep()
        return told

    def copy(self):
        """An independent hall, alike in all things, outside of all blocks."""
        hall = Hall(self.began)
        hall.turn(self.stood, self.undone, self.book, self.pairing)
        return hall

    def stand(self, line, book, pairing):
        """Lets a deed stand, with this line, that leads to this book and this pairing."""
        self.turn((*self.stood, (line, self.book, self.pairing)), (), book, pairing)

    def turn(self, stood, undone, book, pairing):
        """Turns the hall into one of which this holds."""
        self.book = book
        self.pairing = pairing
        self.done = len(stood)
        self.stood = stood
        self.undone = undone


class Trial:
    """A block of a hall, with what is to be again behind it: `kept` is None unless all stays as it is then.

    `outer` is the block around it, or None.
    """

    def __init__(self, hall):
        self.hall = hall
        self.kept = None

    def __enter__(self):
        hall = self.hall
        self.book = hall.book
        self.pairing = hall.pairing
        self.done = hall.done
        self.stood = hall.stood
        self.undone = hall.undone
        self.outer = hall.block
        hall.block = self
        return hall

    def __exit__(self, kind, value, trace):
        hall = self.hall
        hall.block = self.outer
        if kind is not None or self.kept is None:
            hall.book = self.book
            hall.pairing = self.pairing
            hall.done = self.done
            hall.stood = self.stood
            hall.undone = self.undone


def refuse_no_pair(book, one, other):
    """BadPair((one, other)) unless they are one of the ones and one of the others."""
    if not is_pair_of((one, other), book.ones, book.others):
        raise BadPair((one, other))
