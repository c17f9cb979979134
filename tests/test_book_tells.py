"""Points 2, 3 and 4: what a book tells, and the books that come of it."""

import unittest

from factpairs import books
from factpairs.books import Book
from factpairs.errors import BadChoice, BadRow, Full, NoPerson, NoSaying, OtherPeople, PairError, Round
from tests.helpers import (TEXT, TWELVE_ONES, TWELVE_OTHERS, any_values, chance_book, choices_of, kinds, large,
                           lists_of, sure, text_of, with_chance)

CHAIN = "\n".join(["ones a b", "others v w x y z", "a rather x y", "a rather v w", "a rather y z nobody", "a rather w x",
                   "b rather z v", "v rather nobody a b", "w rather b nobody"])


class BookCase(unittest.TestCase):

    def refused(self, error, value, call, *args, **more):
        """The call raises this error with this very value."""
        with self.assertRaises(PairError) as held:
            call(*args, **more)
        self.assertIs(held.exception.__class__, error)
        self.assertEqual(kinds(held.exception.value), kinds(value))
        return held.exception.value

    def state(self, book):
        """All that a book tells by itself."""
        told = [book.ahead(person, choice) for person in book.persons for choice in book[person]]
        return kinds([book.text, book.ones, book.others, book.persons, book.sayings, told, len(book)])


class TellingTest(BookCase):

    def setUp(self):
        self.book = Book(CHAIN)

    def test_what_the_interface_lists(self):
        for name in ("ahead", "said", "unsaid", "places"):
            self.assertIn(name, vars(Book))
        for name in ("text", "ones", "others", "persons", "sayings"):
            self.assertTrue(hasattr(self.book, name))
        self.assertEqual(books.Book.__module__, "factpairs.books")

    def test_the_choices_of_a_person(self):
        self.assertEqual(kinds(self.book["a"]), kinds(("v", "w", "x", "y", "z", "")))
        self.assertEqual(self.book["b"], ("v", "w", "x", "y", "z", ""))
        self.assertEqual(kinds(self.book["v"]), kinds(("a", "b", "")))
        self.assertEqual(large()["aa"], TWELVE_OTHERS + ("",))
        self.assertEqual(large()["bl"], TWELVE_ONES + ("",))

    def test_no_person(self):
        row = ("x", "y")
        for value in any_values() + ["", (), "c", "ab", ("a",), ["a"]]:
            for call, args in ((self.book.__getitem__, ()), (self.book.ahead, ("x",)), (self.book.said, (row,)),
                               (self.book.places, ("x",)), (self.book.ahead, (7,)), (self.book.said, (7,)),
                               (self.book.places, (None,))):
                self.assertIs(self.refused(NoPerson, value, call, value, *args), value)

    def test_how_many_sayings(self):
        self.assertEqual([len(self.book), len(Book("ones a\nothers b"))], [7, 0])

    def test_in(self):
        choices = ("v", "w", "x", "y", "z", "")
        for first in choices:
            for second in choices:
                ahead = choices.index(first) < choices.index(second)
                self.assertIs(("a", first, second) in self.book, ahead)
                self.assertIs(("b", first, second) in self.book, (first, second) == ("z", "v"))
        self.assertIs(("v", "", "b") in self.book, True)
        self.assertIs(("v", "b", "") in self.book, False)

    def test_in_for_any_value(self):
        for value in any_values() + ["", (), "a", ("a", "x"), ("a", "x", "y", "z"), ["a", "x", "y"], ("a", "x", "nobody"),
                                     ("a", "x", "x"), ("c", "x", "y"), ("x", "a", "a"), ("a", "b", ""), ("v", "x", "b")]:
            self.assertIs(value in self.book, False)
            for triple in ((value, "x", "y"), ("a", value, "y"), ("a", "v", value)):
                if value not in ("", "a"):
                    self.assertIs(triple in self.book, False, triple)
        self.assertIs(("a", "x", "y") in self.book, True)

    def test_ahead_over_several_steps(self):
        self.assertEqual(kinds(self.book.ahead("a", "")), kinds(("v", "w", "x", "y", "z")))
        self.assertEqual(kinds(self.book.ahead("a", "x")), kinds(("v", "w")))
        self.assertEqual(kinds(self.book.ahead("a", "v")), kinds(()))
        self.assertEqual(self.book.ahead("b", "v"), ("z",))
        self.assertEqual(self.book.ahead("b", ""), ())
        self.assertEqual(self.book.ahead("v", "b"), ("a", ""))
        self.assertEqual(self.book.ahead("w", ""), ("b",))
        self.assertEqual(self.book.ahead("x", "a"), ())

    def test_bad_choices(self):
        for value in any_values() + [(), "a", "c", "nobody", ("x",)]:
            for call in (self.book.ahead, self.book.places):
                self.assertIs(self.refused(BadChoice, value, call, "a", value), value)
                if value != "a":
                    self.assertIs(self.refused(BadChoice, value, call, "v", value), value)
        self.refused(BadChoice, "x", self.book.ahead, "v", "x")
        self.refused(BadChoice, "b", self.book.places, "a", "b")

    def test_all_that_is_sure_by_chance(self):
        for seed in range(120):
            book = chance_book(seed, 3)
            known = sure(book)
            for person in book.persons:
                self.assertEqual(book[person], choices_of(book, person))
                for second in choices_of(book, person):
                    ahead = tuple(first for first in choices_of(book, person) if (person, first, second) in known)
                    self.assertEqual(book.ahead(person, second), ahead)
                    for first in choices_of(book, person):
                        self.assertIs((person, first, second) in book, (person, first, second) in known)

    def test_what_is_sure_holds_by_all_lists(self):
        for seed in range(60):
            book = chance_book(seed, 3)
            for person in book.persons:
                lists = lists_of(book, person)
                for first in book[person]:
                    for second in book[person]:
                        by_all = first != second and all(row.index(first) < row.index(second) for row in lists)
                        self.assertIs((person, first, second) in book, by_all)

    def test_equal_books(self):
        self.assertTrue(Book(TEXT) == Book(TEXT))
        self.assertFalse(Book(TEXT) != Book(TEXT))
        self.assertTrue(Book("ones a\nothers b\na rather b nobody").unsaid(0) == Book("ones a\nothers b"))
        for text in (CHAIN, TEXT + "\nann rather cy dan", TEXT.replace("ann bea", "bea ann")):
            self.assertFalse(Book(TEXT) == Book(text))
            self.assertTrue(Book(TEXT) != Book(text))

    def test_a_book_equals_nothing_else(self):
        book = Book(CHAIN)
        for value in any_values() + [CHAIN, (), "", (CHAIN,), [book], {CHAIN: book}]:
            self.assertIs(book == value, False)
            self.assertIs(value == book, False)
            self.assertIs(book != value, True)


class SayingTest(BookCase):

    def setUp(self):
        self.book = Book(CHAIN)

    def tearDown(self):
        self.assertEqual(self.state(self.book), self.state(Book(CHAIN)))

    def test_said(self):
        more = self.book.said("b", ("", "w"))
        self.assertEqual(more.text, CHAIN + "\nb rather nobody w")
        self.assertEqual(kinds(more.sayings[-1]), kinds(("b", ("", "w"))))
        self.assertEqual([len(more), more.ahead("b", "w"), self.book.ahead("b", "w")], [8, ("",), ()])
        self.assertIs(more.__class__, Book)

    def test_said_what_is_said(self):
        again = self.book.said("b", ("z", "v"))
        self.assertEqual([again.sayings[-1], again.sayings[4], len(again)], [("b", ("z", "v"))] * 2 + [8])
        self.assertFalse(again == self.book)

    def test_said_leads_on(self):
        more = self.book.said("b", ("v", "x")).said("b", ("y", "z"))
        self.assertEqual([more.ahead("b", "x"), ("b", "y", "x") in more], [("v", "y", "z"), True])

    def test_bad_rows(self):
        rows = [("x",), ("x", "x"), ("x", "y", "x"), ("", ""), ("x", "nobody"), ("x", "b"), ("x", None), ["x", "y"],
                ("x", True), ("x", ["y"]), ("x", ("y",)), (("x", "y"),), "xy", "x y", {"x": 1, "y": 2}, ("a", "x"), (),
                ("v", "w", "x", "y", "z", "", "v"), ("x", "y", "c"), ("x", self.book), "", ([], []), ("x", {})]
        for row in rows + any_values():
            self.assertIs(self.refused(BadRow, row, self.book.said, "a", row), row)

    def test_round(self):
        for row in (("z", "v"), ("", "z"), ("y", "v"), ("x", "v", "w"), ("z", "y"), ("v", "w", "x", "z", "y")):
            value = self.refused(Round, ("a", row), self.book.said, "a", row)
            self.assertIs(value[1], row)
        self.refused(Round, ("v", ("b", "")), self.book.said, "v", ("b", ""))

    def test_full(self):
        book = Book(text_of("a", "b", [("a", ("b", ""))] * 59)).said("a", ("b", ""))
        self.assertEqual(len(book), 60)
        self.refused(Full, 60, book.said, "a", ("b", ""))
        self.refused(Full, 60, book.said, "b", ("a", ""))
        self.refused(Round, ("a", ("", "b")), book.said, "a", ("", "b"))
        self.refused(BadRow, ("b", "b"), book.said, "a", ("b", "b"))
        self.refused(NoPerson, "c", book.said, "c", ("b", ""))
        self.assertEqual(len(book), 60)

    def test_the_first_error_is_told(self):
        self.refused(NoPerson, "c", self.book.said, "c", ("x", "x"))
        self.refused(NoPerson, [], self.book.ahead, [], "x")
        self.refused(BadRow, ("z", "v", "v"), self.book.said, "a", ("z", "v", "v"))

    def test_unsaid(self):
        lines = CHAIN.split("\n")
        for number in range(7):
            less = self.book.unsaid(number)
            self.assertEqual(less.text, "\n".join(lines[:number + 2] + lines[number + 3:]))
            self.assertEqual(less.sayings, self.book.sayings[:number] + self.book.sayings[number + 1:])
            self.assertEqual(sure(less), {(p, x, y) for p in less.persons for y in less[p] for x in less.ahead(p, y)})
        self.assertEqual(self.book.unsaid(3).ahead("a", "z"), ("x", "y"))

    def test_unsaid_of_one_told_twice(self):
        book = self.book.said("a", ("w", "x"))
        self.assertEqual(book.unsaid(7), self.book)
        self.assertEqual(book.unsaid(3).ahead("a", "x"), ("v", "w"))

    def test_no_saying(self):
        for value in any_values() + [7, 8, -1, -7, "0", True, False, (), 60, (0,), [0]]:
            if value.__class__ is int and 0 <= value < 7:
                continue
            self.assertIs(self.refused(NoSaying, value, self.book.unsaid, value), value)
        for value in (0, -1, False, None):
            self.refused(NoSaying, value, Book("ones a\nothers b").unsaid, value)

    def test_what_said_takes_is_just_what_may_stand(self):
        for seed in range(40):
            book = chance_book(seed, 3)
            known = sure(book)
            for person in book.persons:
                for first in book[person]:
                    for second in book[person]:
                        if first == second:
                            self.refused(BadRow, (first, second), book.said, person, (first, second))
                        elif (person, second, first) in known:
                            self.refused(Round, (person, (first, second)), book.said, person, (first, second))
                        else:
                            self.assertIn((person, first, second), book.said(person, (first, second)))

    def test_more_said_keeps_what_is_sure(self):
        for seed in range(60):
            book = chance_book(seed, 3)
            for number in range(len(book)):
                self.assertTrue(book.unsaid(number) <= book)

    def test_names_of_arguments(self):
        self.assertEqual(self.book.said(person="b", row=("z", "y")), self.book.said("b", ("z", "y")))
        self.assertEqual(self.book.said(row=("z", "y"), person="b"), self.book.said("b", ("z", "y")))
        self.assertEqual(self.book.unsaid(number=2), self.book.unsaid(2))
        self.assertEqual(self.book.ahead(choice="x", person="a"), ("v", "w"))
        self.assertEqual(self.book.places(choice="x", person="a"), (2, 2))


class PlacesTest(BookCase):

    def test_of_those_who_said_nothing(self):
        book = large()
        for person in ("aa", "al", "ba", "bl"):
            for choice in book[person]:
                self.assertEqual(kinds(book.places(person, choice)), kinds((0, 12)))

    def test_of_one_row(self):
        row = TWELVE_OTHERS[3:9] + ("",) + TWELVE_OTHERS[:2]
        book = large([("aa", row)])
        for at, choice in enumerate(row):
            self.assertEqual(book.places("aa", choice), (at, 12 - (len(row) - 1 - at)))
        for choice in TWELVE_OTHERS[9:] + TWELVE_OTHERS[2:3]:
            self.assertEqual(book.places("aa", choice), (0, 12))
        self.assertEqual(book.places("ab", ""), (0, 12))

    def test_of_all_in_one_row(self):
        row = TWELVE_ONES[6:] + ("",) + TWELVE_ONES[:6]
        book = large([("bd", row)])
        for at, choice in enumerate(row):
            self.assertEqual(book.places("bd", choice), (at, at))

    def test_of_several_rows(self):
        book = large([("ac", ("ba", "bb", "bc")), ("ac", ("bd", "bb", "")), ("ac", ("be", "bf"))])
        told = [book.places("ac", choice) for choice in ("ba", "bb", "bc", "bd", "be", "bf", "", "bg")]
        self.assertEqual(told, [(0, 9), (2, 10), (3, 12), (0, 9), (0, 11), (1, 12), (3, 12), (0, 12)])

    def test_against_all_lists(self):
        for seed in range(80):
            book = chance_book(seed, 4)
            for person in book.persons:
                lists = lists_of(book, person)
                for choice in book[person]:
                    found = [row.index(choice) for row in lists]
                    self.assertEqual(book.places(person, choice), (min(found), max(found)))

    def test_errors(self):
        book = Book(TEXT)
        self.refused(NoPerson, "", book.places, "", "cy")
        self.refused(BadChoice, "ann", book.places, "ann", "ann")
        self.refused(BadChoice, "nobody", book.places, "ann", "nobody")


class JoiningTest(BookCase):

    def book(self, *sayings):
        return Book("\n".join(("ones a b\nothers w x y z",) + sayings))

    def test_either(self):
        one = self.book("a rather w x", "b rather x y")
        other = self.book("b rather y z", "a rather w x", "x rather a b")
        both = one | other
        self.assertEqual(both, self.book("a rather w x", "b rather x y", "b rather y z", "x rather a b"))
        self.assertEqual(other | one, self.book("b rather y z", "a rather w x", "x rather a b", "b rather x y"))
        self.assertEqual([len(one), len(other), one | one, both.ahead("b", "z")], [2, 3, one, ("x", "y")])

    def test_either_of_sayings_told_twice(self):
        one = self.book("a rather w x", "a rather w x")
        other = self.book("b rather y z", "a rather w x", "b rather y z", "x rather a b", "b rather y z")
        told = ["a rather w x"] * 2 + ["b rather y z"] * 2 + ["x rather a b", "b rather y z"]
        self.assertEqual(one | other, self.book(*told))
        self.assertEqual((other | one), other)
        self.assertEqual(self.book("a rather w x") | self.book("a rather w x", "a rather w x"), self.book("a rather w x"))

    def test_a_saying_that_is_only_sure_is_added(self):
        one = self.book("a rather w x y")
        self.assertEqual(one | self.book("a rather w y"), self.book("a rather w x y", "a rather w y"))
        self.assertEqual(one | self.book("b rather w x y"), self.book("a rather w x y", "b rather w x y"))

    def test_either_goes_round(self):
        one = self.book("a rather w x")
        self.refused(Round, ("a", ("x", "w")), one.__or__, self.book("a rather x w"))
        self.refused(Round, ("a", ("y", "w")), one.__or__, self.book("a rather x y", "a rather y w", "a rather y z"))
        other = self.book("b rather x w", "a rather x nobody w", "a rather nobody w")
        self.refused(Round, ("a", ("x", "", "w")), one.__or__, other)
        other = self.book("a rather y z", "a rather x y", "b rather w x")
        self.refused(Round, ("a", ("x", "y")), self.book("a rather z w x", "b rather x z").__or__, other)
        self.assertEqual(len(one | self.book("b rather x w")), 2)

    def test_either_is_full(self):
        one = self.book(*["a rather w x"] * 40)
        self.assertEqual(len(one | self.book(*["b rather w x"] * 20)), 60)
        self.refused(Full, 60, one.__or__, self.book(*["b rather w x"] * 21))
        self.refused(Full, 60, one.__or__, self.book(*["b rather w x"] * 60))
        self.assertEqual(len(one | self.book(*["a rather w x"] * 60)), 40)

    def test_going_round_comes_ahead_of_full(self):
        one = self.book(*["a rather w x"] * 40)
        self.refused(Round, ("a", ("x", "w")), one.__or__, self.book(*["b rather w x"] * 40, "a rather x w"))
        full = self.book(*["a rather w x"] * 60)
        self.refused(Round, ("a", ("y", "w")), full.__or__, self.book("a rather x y", "a rather y w"))

    def test_both(self):
        one = self.book("a rather w x y z", "b rather x y", "x rather a nobody")
        other = self.book("a rather y z", "a rather w y nobody", "b rather y x", "x rather a b nobody")
        self.assertEqual(one & other, self.book("a rather w y", "a rather y z", "x rather a nobody"))
        self.assertEqual(other & one, one & other)
        self.assertEqual(one & one, self.book("a rather w x", "a rather x y", "a rather y z", "b rather x y",
                                              "x rather a nobody"))

    def test_both_where_each_has_something_between(self):
        one, other = self.book("a rather w x z"), self.book("a rather w y z")
        self.assertEqual(one & other, self.book("a rather w z"))
        one, other = self.book("a rather w x y z"), self.book("a rather x w y z")
        self.assertEqual(one & other, self.book("a rather w y", "a rather x y", "a rather y z"))

    def test_sequence_of_both(self):
        book = self.book("z rather nobody b a", "b rather nobody z", "b rather z w", "a rather y w", "a rather x z")
        self.assertEqual(book & book, self.book("a rather x z", "a rather y w", "b rather z w", "b rather nobody z",
                                                "z rather b a", "z rather nobody b"))

    def test_both_are_full(self):
        half = len(TWELVE_OTHERS) // 2
        rows = [(first, second) for first in TWELVE_OTHERS[:half] for second in TWELVE_OTHERS[half:]]
        book = large([("aa", row) for row in rows] + [("ab", ("ba", "bb", "bc", "bd"))] * 8)
        self.assertEqual(len(book & book), 39)
        sayings = [("aa", TWELVE_OTHERS), ("ab", TWELVE_OTHERS), ("ac", TWELVE_OTHERS), ("ad", TWELVE_OTHERS),
                   ("ae", TWELVE_OTHERS), ("ba", TWELVE_ONES[:6])]
        book = large(sayings)
        self.assertEqual(len(book & book), 60)
        self.assertEqual(len(book & book.said("bb", ("aa", "ab"))), 60)
        more = book.said("bb", ("aa", "ab"))
        self.refused(Full, 60, more.__and__, more)

    def test_within(self):
        one, other = self.book("a rather w y"), self.book("a rather x y", "a rather w x")
        self.assertIs(one <= other, True)
        self.assertIs(other <= one, False)
        self.assertIs(one <= one, True)
        self.assertIs(self.book() <= one, True)
        self.assertIs(one <= self.book(), False)
        self.assertIs(one <= self.book("b rather w y"), False)
        self.assertIs(self.book("w rather a b") <= self.book("x rather a b"), False)
        self.assertIs(self.book("a rather w x", "a rather x y") <= self.book("a rather w x y"), True)

    def test_by_what_is_sure_by_chance(self):
        for seed in range(150):
            base = chance_book(seed, 3, 4)
            one, other = with_chance(base, seed + 1000, 3), with_chance(base, seed + 2000, 5)
            self.assertIs(one <= other, sure(one) <= sure(other))
            self.assertEqual(sure(one & other), sure(one) & sure(other))
            self.assertTrue((one & other) <= one and (one & other) <= other)
            self.assertEqual((one & other).sayings, self.nearest(one, sure(one) & sure(other)))

    def nearest(self, book, known):
        """The sayings of & as the document tells them."""
        found = []
        for person in book.persons:
            for x in choices_of(book, person):
                for y in choices_of(book, person):
                    between = [z for z in choices_of(book, person) if (person, x, z) in known and (person, z, y) in known]
                    if (person, x, y) in known and not between:
                        found.append((person, (x, y)))
        return tuple(found)

    def test_exchanged(self):
        book = Book(TEXT)
        turned = ~book
        self.assertEqual(turned.text, TEXT.replace("ones ann bea\nothers cy dan", "ones cy dan\nothers ann bea"))
        self.assertEqual([turned.ones, turned.others], [book.others, book.ones])
        self.assertEqual(turned.sayings, book.sayings)
        self.assertEqual(~turned, book)
        self.assertEqual(turned["ann"], book["ann"])

    def test_exchanged_tells_the_same(self):
        for seed in range(60):
            book = chance_book(seed, 3)
            turned = ~book
            self.assertEqual(turned.persons, book.others + book.ones)
            for person in book.persons:
                for choice in book[person]:
                    self.assertEqual(turned.ahead(person, choice), book.ahead(person, choice))
                    self.assertEqual(turned.places(person, choice), book.places(person, choice))

    def test_other_people(self):
        one = self.book("a rather w x")
        for head in ("ones b a\nothers w x y z", "ones a b\nothers x w y z", "ones a\nothers w x y z",
                     "ones a b\nothers w x y", "ones a b c\nothers w x y z", "ones w x y z\nothers a b"):
            other = Book(head)
            for call in (one.__or__, one.__and__, one.__le__):
                self.assertIs(self.refused(OtherPeople, other, call, other), other)
        self.assertIs(self.refused(OtherPeople, ~one, one.__or__, ~one) == ~one, True)

    def test_other_people_come_ahead(self):
        one = self.book(*["a rather w x"] * 60)
        other = Book(text_of(("a", "b"), ("w", "x"), [("a", ("x", "w"))] * 60))
        self.refused(OtherPeople, other, one.__or__, other)

    def test_books_stay_as_they_are(self):
        one, other = self.book("a rather w x", "b rather x y"), self.book("a rather w x", "a rather x y")
        ahead = [self.state(one), self.state(other)]
        told = [one | other, one & other, one <= other, ~one, one | one, one & one]
        with self.assertRaises(Round):
            one | self.book("a rather x w")
        self.assertEqual([self.state(one), self.state(other)], ahead)
        self.assertEqual(told, [one | other, one & other, one <= other, ~one, one | one, one & one])

    def test_with_other_values(self):
        with self.assertRaises(TypeError):
            self.book() | "text"
        with self.assertRaises(TypeError):
            self.book() & None
        with self.assertRaises(TypeError):
            self.book() <= 3

    def test_returned_books_have_such_texts(self):
        for seed in range(40):
            book = chance_book(seed, 3)
            returned = [~book, book & book, book | book, book | (book & book)]
            returned.extend(book.unsaid(number) for number in range(len(book)))
            for made in returned:
                self.assertEqual(made.text, text_of(made.ones, made.others, made.sayings))
                self.assertEqual(Book(made.text), made)


if __name__ == "__main__":
    unittest.main()
