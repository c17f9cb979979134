"""What the tests share: values of any kind, books by chance, and what a going through of everything tells.

Nothing here uses the package but to make and to ask for texts: all is found again from the document's words.
"""

import random
import unittest
from itertools import permutations

from factpairs.books import Book
from factpairs.desk import Desk
from factpairs.errors import PairError
from factpairs.halls import Hall
from factpairs.pairings import Pairing

TEXT = "\n".join([
    "ones ann bea",
    "others cy dan",
    "ann rather cy dan nobody",
    "bea rather dan nobody",
    "bea rather cy nobody",
    "cy rather ann nobody",
    "cy rather bea nobody",
    "dan rather ann nobody",
    "dan rather bea nobody",
])

TWELVE_ONES = tuple("a" + letter for letter in "abcdefghijkl")
TWELVE_OTHERS = tuple("b" + letter for letter in "abcdefghijkl")


def text_of(ones, others, sayings=()):
    """The text of a book, as the document tells it."""
    lines = ["ones " + " ".join(ones), "others " + " ".join(others)]
    for person, row in sayings:
        lines.append(person + " rather " + " ".join(choice or "nobody" for choice in row))
    return "\n".join(lines)


def large(sayings=()):
    """The Book of twelve and twelve people."""
    return Book(text_of(TWELVE_ONES, TWELVE_OTHERS, sayings))


def nested(value, deep):
    """The value within so many tuples and lists."""
    for level in range(deep):
        value = (value,) if level % 2 else [value]
    return value


def any_values():
    """Values of all kinds that can be handed in, none of which is a person, a choice, a row, a list or pairs."""
    book = Book(TEXT)
    return [
        0, 1, -1, 7, 123456789012, True, False, None,
        "nobody", "ones", "rather", "Ann", "ann ", " ", "annbea", "anna", "ann cy", "\n", "0", "1",
        [], {}, (None,), (True,), (0,), (1, 2), ((),), ([],), [()], ("",), ("ann",), ["ann"], ("ann", 1),
        {"ann": 1}, {1: {}}, [1, [2]], ["", "cy", "dan"], ["ann", "cy", "dan"], ["cy", "dan", ""], ("ann", ["cy"], {}),
        [["ann", "cy"]], (["ann", "cy"],), ("ann", "cy"), (("ann",),), (("ann", "cy", "dan"),), ((), ()), ({}, {}),
        nested("ann", 30), nested(0, 30), nested({"a": ()}, 28),
        book, [book], (book, book), {"book": book}, PairError(1), (PairError("ann"), "cy"),
        Pairing(book, ()), (Pairing(book, (("ann", "cy"),)), "cy"), [Pairing(book, (("bea", "cy"),))],
        Hall(book), (Hall(book), Hall(book)), {"hall": [Hall(book)]}, Desk(TEXT + "\nhall"), (Desk(TEXT + "\nhall"), "cy", 1),
    ]


def choices_of(book, person):
    """The choices of a person, by the sides alone."""
    return (book.others if person in book.ones else book.ones) + ("",)


def sure(book):
    """All (person, x, y) that are sure, found by following the sayings."""
    found = set()
    for person in book.ones + book.others:
        direct = {}
        for speaker, row in book.sayings:
            if speaker == person:
                for first, second in zip(row, row[1:]):
                    direct.setdefault(first, set()).add(second)
        for first in direct:
            reached, waiting = set(), [first]
            while waiting:
                for second in direct.get(waiting.pop(), ()):
                    if second not in reached:
                        reached.add(second)
                        waiting.append(second)
            found.update((person, first, second) for second in reached)
    return found


def lists_of(book, person):
    """All lists of a person that keep the book, in the sequence of their places."""
    known = {(x, y) for speaker, x, y in sure(book) if speaker == person}
    found = []
    for row in permutations(choices_of(book, person)):
        if all(row.index(x) < row.index(y) for x, y in known):
            found.append(row)
    return found


def pairings(ones, others):
    """All pairings of these people, each as an ascending tuple of pairs."""
    if not ones:
        return [()]
    found = pairings(ones[1:], others)
    for other in others:
        rest = tuple(name for name in others if name != other)
        found = found + [((ones[0], other),) + pairs for pairs in pairings(ones[1:], rest)]
    return [tuple(sorted(pairs)) for pairs in found]


def partner(pairs, person):
    """Whom a person has in a pairing, "" for nobody."""
    for one, other in pairs:
        if person == one:
            return other
        if person == other:
            return one
    return ""


def leavers(book, lists, pairs):
    """Those who leave a pairing by lists, as the document tells them."""
    liked = dict(zip(book.ones + book.others, lists))

    def rather(person, choice):
        return liked[person].index(choice) < liked[person].index(partner(pairs, person))

    alone = [(person,) for person in book.ones + book.others if rather(person, "")]
    both = [(one, other) for one in book.ones for other in book.others
            if (one, other) not in pairs and rather(one, other) and rather(other, one)]
    return tuple(alone + both)


def steady(book, lists):
    """All pairings that are steady by these lists."""
    return [pairs for pairs in pairings(book.ones, book.others) if leavers(book, lists, pairs) == ()]


def is_sure(known, book, pairs):
    """Whether a pairing is surely steady, as the document tells when it is; known is what is sure of the book."""
    held = {person: partner(pairs, person) for person in book.ones + book.others}
    if any(held[person] and (person, held[person], "") not in known for person in held):
        return False
    return all((one, held[one], other) in known or (other, held[other], one) in known
               for one in book.ones for other in book.others if held[one] != other)


def sure_pairings(book):
    """All pairings of a book of few people that are surely steady, ascending."""
    known = sure(book)
    return sorted(pairs for pairs in pairings(book.ones, book.others) if is_sure(known, book, pairs))


def refusing(known, book, pairs):
    """All who surely leave a pairing, so that it is steady by no lists."""
    held = {person: partner(pairs, person) for person in book.ones + book.others}
    alone = [(person,) for person in held if (person, "", held[person]) in known]
    both = [(one, other) for one in book.ones for other in book.others
            if (one, other, held[one]) in known and (other, one, held[other]) in known]
    return alone + both


def turned_about(pairs):
    """Pairs of the ones and the others as pairs of the others and the ones."""
    return tuple(sorted((other, one) for one, other in pairs))


def bent(value):
    """The value with one part of another kind, or with a word that nobody has, at any depth."""
    found = [None, 0, True, "eve", [value], (value,), {}, Book(TEXT)]
    if isinstance(value, tuple):
        found.extend([list(value), value + (value,), value + (None,)])
        for at, part in enumerate(value):
            found.extend(value[:at] + (other,) + value[at + 1:] for other in bent(part))
    return found


def chance_book(seed, most=3, sayings=8):
    """A Book of up to so many people on a side, with up to so many sayings, by a seed."""
    chance = random.Random(seed)
    names = ["a", "b", "c", "x", "y", "z", "k", "m"]
    chance.shuffle(names)
    many = chance.randint(1, most)
    ones, others = names[:many], names[many:many + chance.randint(1, most)]
    return with_chance(Book(text_of(ones, others)), seed, sayings)


def telling_book(seed, most=3):
    """A Book of up to so many people on a side who told nearly all, so that often some pairings are surely steady."""
    chance = random.Random(seed)
    ones, others = ["d", "b", "c", "a"][:chance.randint(1, most)], ["y", "z", "x", "w"][:chance.randint(1, most)]
    turning = chance.random() < 0.7
    if turning:
        ones, others = ones[:len(others)], others[:len(ones)]
    sayings = []
    for at, person in enumerate(ones + others):
        row = list(others if person in ones else ones)
        if not turning or chance.random() < 0.04:
            chance.shuffle(row)
        elif person in ones:
            row = row[at:] + row[:at]
        else:
            # Whoever likes one of the others more is liked less there: that leaves many pairings steady.
            at = (at - len(ones) + 1) % len(row)
            row = row[at:] + row[:at]
        row.insert(len(row) - chance.choice([0] * 14 + [1]), "")
        if chance.random() < 0.12 and len(row) > 2:
            at = chance.randrange(len(row) - 1)
            sayings.extend([(person, tuple(row[:at] + row[at + 1:])), (person, tuple(row[:at + 1] + row[at + 2:]))])
        else:
            sayings.append((person, tuple(row)))
    chance.shuffle(sayings)
    return Book(text_of(ones, others, sayings))


def opened_book(seed, most, questions):
    """A Book of up to so many people on a side who told all but what leaves so many questions open, or fewer."""
    chance = random.Random(seed)
    names = list("abcdefghijkl"[:chance.randint(2, most)]), list("mnopqrstuvwx"[:chance.randint(2, most)])
    ones, others = [chance.sample(side, len(side)) for side in names]
    rows = {}
    for at, person in enumerate(ones + others):
        row = others if person in ones else ones
        at = (at if person in ones else at - len(ones) + 1) % len(row)
        row = row[at:] + row[:at] if chance.random() < 0.75 else chance.sample(row, len(row))
        place = len(row) - chance.choice([0] * 5 + [1, 2])
        rows[person] = row[:place] + [""] + row[place:]
    sayings = []
    for person in chance.sample(ones + others, len(ones + others)):
        row, width = rows[person], chance.choice([1, 2, 2, 2, 3, 3, 4])
        if width > len(row) or width * (width - 1) // 2 > questions:
            width = 1
        questions -= width * (width - 1) // 2
        at = chance.randrange(min(2, len(row) - width + 1))
        # Of so many choices side by side the person does not tell which is ahead.
        for choice in row[at:at + width]:
            if len(row) > width:
                sayings.append((person, tuple(row[:at] + [choice] + row[at + width:])))
    chance.shuffle(sayings)
    return Book(text_of(ones, others, sayings))


def rings(many):
    """A Book of so many rings of two and two people, in each of whom two pairings are surely steady, and as many people.

    Those of unlike rings do not want one another.
    """
    ones, others, sayings = [], [], []
    for letter in "abcdefghijkl"[:many]:
        first, second, third, fourth = [letter + name for name in "pqrs"]
        ones, others = ones + [first, second], others + [third, fourth]
        sayings.extend([(first, (third, fourth, "")), (second, (fourth, third, "")),
                        (third, (second, first, "")), (fourth, (first, second, ""))])
    for person, row in list(sayings):
        rest = [name for name in (others if person in ones else ones) if name not in row]
        if rest:
            sayings.append((person, ("",) + tuple(rest)))
    return Book(text_of(ones, others, sayings))


# Groups of as many ones as others, by what each would rather: so many pairings are surely steady within each of them.
GROUPS = {
    1: (["0"], ["0"]),
    2: (["01", "10"], ["10", "01"]),
    3: (["012", "120", "201"], ["120", "201", "012"]),
    4: (["0123", "1230", "2301", "3012"], ["1230", "2301", "3012", "0123"]),
    6: (["1023", "1032", "2031", "3210"], ["3210", "2301", "1032", "0123"]),
    7: (["0123", "1302", "2301", "3210"], ["3210", "2301", "1032", "0123"]),
    8: (["0123", "1032", "2301", "3210"], ["2310", "2301", "1032", "0123"]),
    10: (["0123", "1032", "2301", "3210"], ["3210", "2301", "1032", "0123"]),
}


def side_by_side(numbers, alone=0, seed=0):
    """A Book of these groups, those of unlike ones not wanting one another, and of so many on a side who want nobody."""
    chance = random.Random(seed)
    ones, others, rows = [], [], {}
    for letter, number in zip("abcdefghijkl", numbers):
        first = [letter + "pqrs"[at] for at in range(len(GROUPS[number][0]))]
        second = [letter + "wxyz"[at] for at in range(len(first))]
        for persons, choices, told in ((first, second, GROUPS[number][0]), (second, first, GROUPS[number][1])):
            rows.update({person: [choices[int(at)] for at in row] for person, row in zip(persons, told)})
        ones, others = ones + first, others + second
    ones, others = ones + ["m" + "abcdefghijkl"[at] for at in range(alone)], others + ["n" + "abcdefghijkl"[at] for at in range(alone)]
    chance.shuffle(ones)
    chance.shuffle(others)
    sayings = []
    for person in ones + others:
        wanted = rows.get(person, [])
        sayings.append((person, tuple(wanted + [""] + [name for name in (others if person in ones else ones) if name not in wanted])))
    chance.shuffle(sayings)
    return Book(text_of(ones, others, sayings))


def with_chance(book, seed, sayings=8):
    """The Book with up to so many sayings more, by a seed."""
    chance = random.Random(seed)
    for _ in range(chance.randint(0, sayings)):
        person = chance.choice(book.persons)
        row = list(choices_of(book, person))
        chance.shuffle(row)
        try:
            book = book.said(person, tuple(row[:chance.randint(2, len(row))]))
        except PairError:
            continue
    return book


def chance_lists(book, seed):
    """Lists of a book of few people, by a seed."""
    chance = random.Random(seed)
    return tuple(chance.choice(lists_of(book, person)) for person in book.ones + book.others)


class PairCase(unittest.TestCase):

    def refused(self, error, value, call, /, *args, **more):
        """The call raises this error with this very value."""
        with self.assertRaises(PairError) as held:
            call(*args, **more)
        self.assertIs(held.exception.__class__, error)
        self.assertIs(held.exception.value, value)


def kinds(value):
    """A value with the kinds of all that it holds, so that True is not 1 and a list is no tuple."""
    if isinstance(value, (list, tuple)):
        return value.__class__.__name__, [kinds(part) for part in value]
    if isinstance(value, dict):
        return "dict", [(kinds(key), kinds(part)) for key, part in value.items()]
    return value.__class__.__name__, value
