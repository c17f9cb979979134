"""Points 2, 3 and 11: the cheapest further sayings by which hopes come true."""

import random
import unittest
from itertools import combinations

from factpairs import choosing as module
from factpairs.books import Book
from factpairs.choosing import cheapest
from factpairs.errors import BadHopes, BadOffers, PairError
from tests.helpers import (PairCase, TEXT, any_values, bent, chance_book, choices_of, kinds, large, opened_book, rings,
                           side_by_side, sure_pairings, text_of)

OFFERS = (("bea", ("dan", "cy"), 3), ("cy", ("ann", "bea"), 2))


def choices_in_sequence(offers):
    """All choices of offers, sorted as the document tells."""
    found = [choice for many in range(len(offers) + 1) for choice in combinations(offers, many)]
    return sorted(found, key=lambda choice: (sum(offer[2] for offer in choice), len(choice), choice))


def said(book, choice):
    """The Book behind the sayings of a choice, None if it does not count."""
    sayings = book.sayings + tuple((person, row) for person, row, price in choice)
    if len(sayings) > 60:
        return None
    more = [f"{person} rather " + " ".join(word or "nobody" for word in row) for person, row in sayings]
    try:
        return Book("\n".join(text_of(book.ones, book.others).split("\n") + more))
    except PairError:
        return None


def comes_true(found, hope):
    """Whether a hope comes true, if these are all surely steady pairings."""
    if not found:
        return False
    if hope[0] == "together":
        return all(hope[1:] in pairs for pairs in found)
    if hope[0] == "apart":
        return not any(hope[1:] in pairs for pairs in found)
    if hope[0] == "alone":
        return all(hope[1] not in name for pairs in found for name in pairs)
    return True


def expected(book, offers, hopes):
    """What cheapest tells, by a look at all choices and all pairings."""
    reasons = []
    for choice in choices_in_sequence(offers):
        more = said(book, choice)
        if more is not None:
            found = sure_pairings(more)
            failed = [number for number, hope in enumerate(hopes) if not comes_true(found, hope)]
            if not failed:
                return ("choice", sum(offer[2] for offer in choice), choice, tuple(reasons))
            reasons.append((choice, failed[0]))
    return ("none", tuple(reasons))


def some_offers(book, chance, many):
    """Offers by chance; mostly what people have not told yet."""
    found = {}
    for _ in range(40):
        person = chance.choice(book.persons)
        choices = list(choices_of(book, person))
        chance.shuffle(choices)
        row = tuple(choices[:chance.choice([2, 2, 2, 3, len(choices)])])
        if len(row) > 1 and len(found) < many and (chance.random() < 0.2 or all(
                (person, x, y) not in book and (person, y, x) not in book for x, y in zip(row, row[1:]))):
            found[(person, row)] = chance.choice([1, 1, 2, 2, 3, 4, 9])
    if not found:
        person = book.persons[0]
        found[(person, choices_of(book, person)[::-1][:2])] = 1
    return tuple(sorted(key + (price,) for key, price in found.items()))


def some_hopes(book, chance, many):
    """Hopes by chance."""
    found = []
    while len(found) < many:
        word = chance.choice(["some", "together", "apart", "alone", "together", "apart"])
        pair = (chance.choice(book.ones), chance.choice(book.others))
        hope = {"some": ("some",), "alone": ("alone", chance.choice(book.persons))}.get(word, (word,) + pair)
        if hope in found and len(book.persons) == 2:
            return tuple(found)
        if hope not in found:
            found.append(hope)
    return tuple(found)


def chance_case(seed):
    """(book, offers, hopes) by a seed."""
    chance = random.Random(seed)
    book = opened_book(seed, 3, 6) if seed % 3 else chance_book(seed, 3, 10)
    if seed % 3 == 2 and len(book):
        book = book.unsaid(chance.randrange(len(book)))
    offers = some_offers(book, chance, chance.randint(1, 4))
    return book, offers, some_hopes(book, chance, chance.randint(1, 3))


class CheapestTest(PairCase):

    def test_what_the_interface_lists(self):
        self.assertEqual(module.cheapest.__module__, "factpairs.choosing")

    def check(self, book, offers, hopes):
        """What cheapest tells, against a look at all choices and pairings; returns it."""
        told = cheapest(book, offers, hopes)
        self.assertEqual(kinds(told), kinds(expected(book, offers, hopes)), (book.text, offers, hopes))
        return told

    def test_against_all_choices_and_pairings(self):
        none, first, others, reasons = 0, 0, set(), set()
        for seed in range(900):
            told = self.check(*chance_case(seed))
            reasons.update(number for choice, number in told[-1])
            if told[0] == "none":
                none += 1
            elif told[2] == ():
                first += 1
            else:
                others.add(len(told[2]))
        self.assertGreater(none, 50)
        self.assertGreater(first, 40)
        self.assertLessEqual({1, 2}, others)
        self.assertEqual(reasons, {0, 1, 2})

    def test_each_sort_of_hope(self):
        sorts = {}
        for seed in range(300):
            book, offers, hopes = chance_case(seed)
            for hope in hopes:
                told = self.check(book, offers, (hope,))
                sorts.setdefault(hope[0], set()).add((told[0], told[0] == "choice" and len(told[2]) > 0))
        for sort in ("some", "together", "apart", "alone"):
            self.assertEqual(sorts[sort], {("none", False), ("choice", False), ("choice", True)}, sort)

    def test_sequence_of_choices(self):
        # Nothing helps, so all that count are told, in sequence.
        book = Book("ones a b\nothers x y")
        hopes = (("together", "a", "x"),)
        for prices in ((1, 1, 1, 1), (1, 2, 3, 4), (9, 9, 9, 9), (2, 1, 1, 2), (4, 3, 2, 1), (1, 1, 2, 9), (3, 3, 3, 9), (5, 4, 9, 1)):
            offers = tuple(row + (price,) for row, price in zip(
                [("a", ("x", "y")), ("a", ("y", "")), ("b", ("", "x")), ("x", ("a", "b", ""))], prices))
            told = self.check(book, offers, hopes)
            self.assertEqual(told, ("none", tuple((choice, 0) for choice in choices_in_sequence(offers))))
            self.assertEqual(len(told[1]), 16)

    def test_price_then_how_many_then_as_tuples(self):
        book = Book("ones a\nothers x y\nx rather a nobody\ny rather a nobody")
        # All of these bring one; what costs as much and is of fewer offers is ahead.
        offers = (("a", ("x", ""), 1), ("a", ("x", "y"), 1), ("a", ("x", "y", ""), 2))
        told = self.check(book, offers, (("some",),))
        self.assertEqual(told, ("choice", 2, (offers[2],), (((), 0), ((offers[0],), 0), ((offers[1],), 0))))
        told = self.check(book, offers[:2], (("some",),))
        self.assertEqual(told, ("choice", 2, offers[:2], (((), 0), ((offers[0],), 0), ((offers[1],), 0))))
        offers = (("a", ("x", "y", ""), 5), ("a", ("y", "x", ""), 5))
        self.assertEqual(self.check(book, offers, (("some",),))[2], (offers[0],))

    def test_what_goes_round_does_not_count(self):
        book = Book("ones a\nothers x y\na rather x nobody\nx rather a nobody\ny rather a nobody")
        # The first one goes round with the book, the others with one another.
        offers = (("a", ("", "x"), 1), ("a", ("x", "y"), 1), ("a", ("y", "x"), 1))
        told = self.check(book, offers, (("alone", "a"),))
        self.assertEqual(told, ("none", (((), 0), ((offers[1],), 0), ((offers[2],), 0))))
        offers = (("a", ("x", "y"), 1), ("a", ("y", "", "x"), 2), ("a", ("y", "x"), 9))
        told = self.check(book, offers, (("some",), ("alone", "a")))
        self.assertEqual(told, ("none", (((), 0), ((offers[0],), 1), ((offers[2],), 1))))

    def test_more_than_sixty_do_not_count(self):
        short = Book("ones a\nothers x y\na rather x nobody\nx rather a nobody\ny rather nobody a")
        offers = (("a", ("x", "y"), 2), ("a", ("y", "x"), 3), ("x", ("a", ""), 1))
        for many in range(56, 61):
            book = short
            while len(book) < many:
                book = book.said("x", ("a", ""))
            told = self.check(book, offers, (("apart", "a", "x"),))
            counting = {56: 6, 57: 6, 58: 6, 59: 4, 60: 1}[many]
            self.assertEqual([told[0], len(told[1])], ["none", counting])
            self.assertEqual(told[1][0], ((), 0))
            told = self.check(book, offers, (("some",), ("together", "a", "x")))
            self.assertEqual(told, ("choice", 0, (), ()))

    def test_nothing_said_always_counts(self):
        self.assertEqual(cheapest(rings(1), (("ap", ("ar", ""), 9),), (("some",),)), ("choice", 0, (), ()))
        full = Book("ones a\nothers x\n" + "\n".join(["a rather x nobody"] * 60))
        self.assertEqual(cheapest(full, (("x", ("a", ""), 1),), (("some",),)), ("none", (((), 0),)))

    def test_some_but_not_all(self):
        # Two pairings are surely steady: a pair of one of them alone is neither together nor apart.
        ring = Book("ones a b\nothers x y\na rather x y nobody\nb rather y x nobody\nx rather b a nobody\ny rather a b nobody")
        offers = (("a", ("x", "y"), 1),)
        reasons = tuple((choice, 0) for choice in ((), offers))
        for one in "ab":
            for other in "xy":
                for word in ("together", "apart"):
                    self.assertEqual(self.check(ring, offers, ((word, one, other),)), ("none", reasons))
        for name in "abxy":
            self.assertEqual(self.check(ring, offers, (("alone", name),)), ("none", reasons))

    def test_persons_called_as_hopes_are(self):
        book = Book("ones some alone\nothers apart together\nsome rather nobody apart together\nalone rather apart nobody together\n"
                    "apart rather alone some nobody\ntogether rather nobody some alone")
        offers = (("alone", ("apart", "together"), 1),)
        for hope, comes in ((("alone", "some"), True), (("alone", "alone"), False), (("together", "alone", "apart"), True),
                            (("apart", "some", "apart"), True), (("apart", "alone", "apart"), False), (("alone", "together"), True)):
            told = self.check(book, offers, (hope,))
            self.assertEqual(told, ("choice", 0, (), ()) if comes else ("none", (((), 0), (offers, 0))))
        for hope in (("some", "alone"), ("together", "apart", "alone"), ("alone", "some", "apart"), ("some", "alone", "apart")):
            hopes = (hope,)
            self.refused(BadHopes, hopes, cheapest, book, offers, hopes)

    def test_number_of_the_first_hope_that_fails(self):
        book = rings(2)
        offers = (("ap", ("ar", "as"), 1),)
        for hopes, number in [((("some",), ("alone", "ap")), 1), ((("apart", "ap", "br"), ("some",), ("apart", "ap", "ar")), 2),
                              ((("together", "ap", "as"), ("some",), ("alone", "ap")), 0)]:
            self.assertEqual(self.check(book, offers, hopes), ("none", (((), number), (offers, number))))
        # Without any surely steady pairing none of them comes true.
        less = book.unsaid(0)
        self.assertEqual(cheapest(less, offers, (("apart", "ap", "br"), ("some",))), ("none", (((), 0), (offers, 0))))

    def test_large_books(self):
        book = side_by_side((10, 10, 3), 1, 4)
        person, row = book.sayings[7]
        less = book.unsaid(7)
        offers = tuple(sorted([(person, row[:2], 3), (person, row, 9), (book.persons[0], book[book.persons[0]][:2], 1)]))
        told = cheapest(less, offers, (("some",), ("alone", "ma"), ("alone", "na")))
        self.assertEqual([told[0], told[2][-1][:2] if told[2][-1][0] == person else told[2][0][:2]], ["choice", (person, row)])
        lonely = cheapest(book, offers, (("alone", "ma"), ("apart", "ma", "na"), ("some",)))
        self.assertEqual(lonely, ("choice", 0, (), ()))
        self.assertEqual(cheapest(large(), (("aa", ("ba", "bb"), 1),), (("some",),)), ("none", (((), 0), ((("aa", ("ba", "bb"), 1),), 0))))

    def test_sides_exchanged(self):
        for seed in range(120):
            book, offers, hopes = chance_case(seed)
            turned = tuple((hope[0], hope[2], hope[1]) if len(hope) == 3 else hope for hope in hopes)
            self.assertEqual(cheapest(~book, offers, turned), cheapest(book, offers, hopes))

    def test_by_position_and_by_name(self):
        book, hopes = Book(TEXT), (("some",),)
        told = cheapest(book, OFFERS, hopes)
        self.assertEqual(cheapest(hopes=hopes, offers=OFFERS, book=book), told)
        self.assertEqual(cheapest(book, OFFERS, hopes=hopes), told)
        self.assertEqual([cheapest(book, OFFERS, hopes), book], [told, Book(TEXT)])


class RefusedTest(PairCase):

    def refuse_offers(self, value, hopes=(("some",),)):
        self.refused(BadOffers, value, cheapest, Book(TEXT), value, hopes)
        self.refused(BadOffers, value, cheapest, Book(TEXT), offers=value, hopes=0)

    def refuse_hopes(self, value):
        self.refused(BadHopes, value, cheapest, Book(TEXT), OFFERS, value)
        self.refused(BadHopes, value, cheapest, book=Book(TEXT), offers=OFFERS, hopes=value)

    def test_values_of_any_kind(self):
        for value in any_values():
            self.refuse_offers(value)
            self.refuse_offers((value,))
            self.refuse_offers((value, *OFFERS))
            self.refuse_hopes(value)
            self.refuse_hopes((value,))
            self.refuse_hopes((("some",), value))
            for at in range(3):
                offer = OFFERS[0][:at] + (value,) + OFFERS[0][at + 1:]
                if (at, value) != (2, 1) and not (at == 2 and value in (7,)) or isinstance(value, bool):
                    self.refuse_offers((offer,))
            for word in ("together", "apart"):
                self.refuse_hopes(((word, value, "cy"),))
                self.refuse_hopes(((word, "ann", value),))
            self.refuse_hopes((("alone", value),))
            self.refuse_hopes(((value,),))
            self.refuse_hopes(((value, "ann"),))
            self.refuse_hopes(((value, "ann", "cy"),))

    def test_offers_with_one_part_otherwise(self):
        right = [kinds(OFFERS)]
        for value in bent(OFFERS):
            self.assertNotIn(kinds(value), right)
            self.refuse_offers(value)

    def test_how_many_offers(self):
        rows = [("ann", ("cy", "dan"), 1), ("ann", ("cy", "dan", ""), 1), ("ann", ("dan", "cy"), 1), ("bea", ("cy", ""), 1),
                ("bea", ("dan", ""), 1)]
        for many in (1, 2, 3, 4):
            self.assertEqual(cheapest(Book(TEXT), tuple(rows[:many]), (("alone", "ann"),))[0], "none")
        self.refuse_offers(())
        self.refuse_offers(tuple(rows))
        self.refuse_offers(rows[:2])

    def test_not_ascending(self):
        self.refuse_offers(OFFERS[::-1])
        self.refuse_offers(OFFERS[:1] * 2)
        first, second = ("ann", ("cy", "dan"), 2), ("ann", ("cy", "dan", ""), 1)
        self.assertEqual(cheapest(Book(TEXT), (first, second), (("alone", "ann"),))[0], "none")
        self.refuse_offers((second, first))
        # A blank choice is ahead of all names.
        first, second = ("ann", ("", "dan"), 2), ("ann", ("cy", "dan"), 1)
        self.assertEqual(cheapest(Book(TEXT), (first, second), (("alone", "ann"),))[0], "none")
        self.refuse_offers((second, first))
        # Persons go by their names, not by their places.
        book = Book("ones b a\nothers x")
        offers = (("a", ("x", ""), 1), ("b", ("x", ""), 1))
        self.assertEqual(cheapest(book, offers, (("some",),))[0], "none")
        turned = offers[::-1]
        self.refused(BadOffers, turned, cheapest, book, turned, (("some",),))

    def test_one_person_with_one_row_twice(self):
        row = ("dan", "cy")
        self.refuse_offers((("bea", row, 1), ("bea", row, 2)))
        self.refuse_offers((("bea", row, 2), ("bea", row, 2)))
        self.refuse_offers((("bea", row, 1), ("bea", row, 2), ("cy", ("ann", "bea"), 1)))
        self.refuse_offers((("ann", row, 1), ("bea", row, 1), ("bea", row, 9)))
        # Two persons may have one row.
        self.assertEqual(cheapest(Book(TEXT), (("ann", row, 1), ("bea", row, 1)), (("some",),))[0], "choice")

    def test_prices(self):
        for price in (1, 9):
            self.assertEqual(cheapest(Book(TEXT), (("bea", ("dan", "cy"), price),), (("some",),))[0], "choice")
        for price in (0, 10, -1, True, False, "1", None, (1,), 123456789012):
            self.refuse_offers((("bea", ("dan", "cy"), price),))

    def test_rows(self):
        for row in (("ann", "bea"), ("dan",), (), ("dan", "dan"), ["dan", "cy"], ("dan", "cy", "bea"), ("dan", "nobody"),
                    ("cy", "dan", "", "cy"), "dan cy", ("dan", ["cy"])):
            self.refuse_offers((("bea", row, 1),))
        for person in ("eve", "", "nobody", None, ("bea",)):
            self.refuse_offers(((person, ("dan", "cy"), 1),))
        self.refuse_offers((("cy", ("dan", "cy"), 1),))
        # What goes round, or is told already, may be offered.
        self.assertEqual(cheapest(Book(TEXT), (("ann", ("", "cy"), 1),), (("some",),)), ("none", (((), 0),)))
        self.assertEqual(cheapest(Book(TEXT), (("ann", ("cy", "dan"), 1),), (("some",),))[0], "none")

    def test_hopes(self):
        right = [("some",), ("together", "ann", "cy"), ("apart", "ann", "cy"), ("apart", "ann", "dan"), ("alone", "ann"),
                 ("alone", "dan")]
        for hope in right:
            self.assertIn(cheapest(Book(TEXT), OFFERS, (hope,))[0], ("choice", "none"))
        for many in (1, 2, 3):
            self.assertIn(cheapest(Book(TEXT), OFFERS, tuple(right[:many]))[0], ("choice", "none"))
        for value in ((), tuple(right[:4]), right[:1], ("some",), "some", (("some",), ("some",)),
                      (right[1], right[0], right[1]), (right[4], right[4]), (right[1], right[2], right[2])):
            self.refuse_hopes(value)
        for hope in (("some", "ann"), ("some", ()), (), ("none",), ("together",), ("together", "ann"), ("together", "cy", "ann"),
                     ("together", "ann", "bea"), ("together", "ann", "cy", "cy"), ("apart", "cy", "ann"), ("apart", "ann"),
                     ("apart", "ann", ""), ("alone",), ("alone", ""), ("alone", "eve"), ("alone", "ann", "cy"), ["some"],
                     ("ann", "cy"), ("alone", ("ann",)), ("Some",), "some", ("together", ("ann", "cy"))):
            self.refuse_hopes((hope,))
            self.refuse_hopes((("some",), hope))

    def test_offers_ahead_of_hopes(self):
        for value in ((), None, OFFERS[::-1]):
            for hopes in ((), None, (("some",), ("some",))):
                self.refuse_offers(value, hopes)


if __name__ == "__main__":
    unittest.main()
