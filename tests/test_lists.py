"""Points 2, 3 and 5: lists, and what comes of pairings by them."""

import unittest
from itertools import product

from factpairs import lists as module
from factpairs.books import Book
from factpairs.errors import BadLists, BadPairs, NoList, NoPerson
from factpairs.lists import are_lists, how_many, is_list, leaving, nth, usual
from tests.helpers import (TEXT, PairCase, TWELVE_ONES, TWELVE_OTHERS, any_values, chance_book, chance_lists, kinds, large,
                           leavers, lists_of, pairings, partner, steady, text_of, with_chance)

FACTORIAL_13 = 6227020800


def first_lists(book):
    """The first list of each person."""
    return tuple(nth(book, person, 0) for person in book.persons)


class IsListTest(PairCase):

    def setUp(self):
        self.book = Book(TEXT)

    def test_what_the_interface_lists(self):
        for name in ("is_list", "are_lists", "how_many", "nth", "leaving", "usual"):
            self.assertEqual(getattr(module, name).__module__, "factpairs.lists")

    def test_all_rows_of_few_choices(self):
        for seed in range(60):
            book = chance_book(seed, 3)
            for person in book.persons:
                kept = lists_of(book, person)
                for many in range(5):
                    for row in product(book[person], repeat=many):
                        self.assertIs(is_list(book, person, row), row in kept, (book.text, person, row))

    def test_any_values(self):
        for value in any_values() + [(), "", "cy", ("cy", "dan"), ("cy", "dan", "", ""), ("cy", "cy", "dan", ""), ["cy", "dan", ""],
                                     ("cy", "dan", "nobody"), ("cy", "dan", None), ("cy", "dan", False), ("cy", "dan", ()),
                                     ("cy", "dan", [""]), (("cy",), "dan", ""), ("cy", "dan", "ann"), (("cy", "dan", ""),),
                                     ("dan", "cy", ""), ("", "cy", "dan"), ("cy", "", "dan"), {"cy": 0, "dan": 1, "": 2}]:
            self.assertIs(is_list(self.book, "ann", value), False, value)
        self.assertIs(is_list(self.book, "ann", ("cy", "dan", "")), True)
        self.assertIs(is_list(self.book, "cy", ("bea", "ann", "")), True)

    def test_lists_of_twelve(self):
        row = TWELVE_OTHERS[::-1] + ("",)
        self.assertIs(is_list(large(), "aa", row), True)
        self.assertIs(is_list(large(), "aa", row[::-1]), True)
        self.assertIs(is_list(large(), "ba", row), False)
        book = large([("aa", ("bl", "ba")), ("aa", ("ba", ""))])
        self.assertIs(is_list(book, "aa", row), True)
        self.assertIs(is_list(book, "aa", row[::-1]), False)
        self.assertIs(is_list(book, "aa", ("bl", "", "ba") + row[1:11]), False)

    def test_no_person(self):
        for value in any_values() + ["", (), "eve", ("ann",)]:
            self.refused(NoPerson, value, is_list, self.book, value, ("cy", "dan", ""))
            self.refused(NoPerson, value, is_list, self.book, value, None)
            self.refused(NoPerson, value, how_many, self.book, value)
            self.refused(NoPerson, value, nth, self.book, value, 0)
            self.refused(NoPerson, value, nth, self.book, value, None)

    def test_are_lists(self):
        for seed in range(60):
            book = chance_book(seed, 3)
            rows = chance_lists(book, seed)
            self.assertIs(are_lists(book, rows), True)
            self.assertIs(are_lists(book, list(rows)), False)
            self.assertIs(are_lists(book, rows[:-1]), False)
            self.assertIs(are_lists(book, rows + rows[:1]), False)
            self.assertIs(are_lists(book, rows[1:] + rows[:1]), False)
            for at, person in enumerate(book.persons):
                self.assertIs(are_lists(book, rows[:at] + (list(rows[at]),) + rows[at + 1:]), False)
                self.assertIs(are_lists(book, rows[:at] + (rows[at][:-1],) + rows[at + 1:]), False)
                self.assertIs(are_lists(book, rows[:at] + rows[at + 1:]), False)
                turned = rows[at][::-1]
                self.assertIs(are_lists(book, rows[:at] + (turned,) + rows[at + 1:]), turned in lists_of(book, person))

    def test_are_lists_with_one_place_otherwise(self):
        rows = first_lists(self.book)
        for at in range(4):
            for spot in range(3):
                for word in ("nobody", "eve", None, 0, True, [], (), ("cy",), rows[at][spot - 1]):
                    row = rows[at][:spot] + (word,) + rows[at][spot + 1:]
                    self.assertIs(are_lists(self.book, rows[:at] + (row,) + rows[at + 1:]), False)
        self.assertIs(are_lists(self.book, rows), True)

    def test_are_lists_for_any_values(self):
        rows = first_lists(self.book)
        for value in any_values() + [(), "", (rows,), dict(zip(self.book.persons, rows)), rows[:3] + (None,), rows[2][:2]]:
            self.assertIs(are_lists(self.book, value), False)
            self.assertIs(are_lists(self.book, (value,) + rows[1:]), False)
            self.assertIs(are_lists(self.book, rows[:3] + (value,)), False)


class CountingTest(PairCase):

    def test_against_all_lists(self):
        for seed in range(100):
            book = chance_book(seed, 4)
            for person in book.persons:
                kept = lists_of(book, person)
                self.assertEqual(kinds(how_many(book, person)), kinds(len(kept)))
                found = [nth(book, person, number) for number in range(len(kept))]
                self.assertEqual(kinds(found), kinds(kept))
                self.refused(NoList, len(kept), nth, book, person, len(kept))

    def test_without_sayings(self):
        self.assertEqual([how_many(Book("ones a\nothers b"), "a"), how_many(large(), "aa")], [2, FACTORIAL_13])
        book = large()
        row = book["bc"]
        self.assertEqual(nth(book, "bc", 0), row)
        self.assertEqual(nth(book, "bc", 1), row[:11] + ("", "al"))
        self.assertEqual(nth(book, "bc", 2), row[:10] + ("al", "ak", ""))
        self.assertEqual(nth(book, "bc", FACTORIAL_13 // 13), ("ab", "aa") + row[2:])
        self.assertEqual(nth(book, "bc", FACTORIAL_13 - 1), row[::-1])
        self.refused(NoList, FACTORIAL_13, nth, book, "bc", FACTORIAL_13)

    def test_one_long_row(self):
        row = TWELVE_OTHERS[::-1] + ("",)
        book = large([("aa", row)])
        self.assertEqual([how_many(book, "aa"), nth(book, "aa", 0)], [1, row])
        self.refused(NoList, 1, nth, book, "aa", 1)
        book = large([("aa", row[1:])])
        self.assertEqual(how_many(book, "aa"), 13)
        self.assertEqual([nth(book, "aa", at) for at in range(13)],
                         sorted((row[1:at + 1] + ("bl",) + row[at + 1:] for at in range(13)),
                                key=lambda found: [book["aa"].index(choice) for choice in found]))

    def test_two_rows_of_unlike_choices(self):
        ahead, behind = TWELVE_ONES[:6][::-1], TWELVE_ONES[6:] + ("",)
        book = large([("bb", ahead), ("bb", behind)])
        self.assertEqual(how_many(book, "bb"), 1716)
        found = [nth(book, "bb", number) for number in range(1716)]
        self.assertEqual(len(set(found)), 1716)
        places = [[book["bb"].index(choice) for choice in row] for row in found]
        self.assertEqual(places, sorted(places))
        for row in found:
            self.assertEqual([tuple(choice for choice in row if choice in part) for part in (ahead, behind)],
                             [ahead, behind])
        self.assertEqual([found[0], found[-1]], [ahead + behind, behind + ahead])

    def test_a_short_row_of_thirteen(self):
        book = large([("aa", ("", "bf")), ("aa", ("", "ba"))])
        self.assertEqual(how_many(book, "aa"), FACTORIAL_13 // 3)
        last = nth(book, "aa", FACTORIAL_13 // 3 - 1)
        self.assertEqual(last, book["aa"][::-1])
        self.assertEqual(nth(book, "aa", 0), TWELVE_OTHERS[1:5] + TWELVE_OTHERS[6:] + ("", "ba", "bf"))
        self.assertEqual(how_many(large([("aa", ("", choice)) for choice in TWELVE_OTHERS]), "aa"), FACTORIAL_13 // 13)

    def test_lists_by_number_keep_the_book_and_ascend(self):
        for seed in range(6):
            book = with_chance(large(), seed, 60)
            for person in ("aa", "ae", "bb", "bl"):
                many = how_many(book, person)
                wanted = {0, 1, many // 3, many // 2, many - 2, many - 1}
                numbers = sorted(number for number in wanted if 0 <= number < many)
                found = [nth(book, person, number) for number in numbers]
                self.assertTrue(all(is_list(book, person, row) for row in found))
                places = [[book[person].index(choice) for choice in row] for row in found]
                self.assertEqual(places, sorted(places))
                self.assertEqual(len({tuple(row) for row in places}), len(numbers))

    def test_no_list(self):
        book = Book(TEXT)
        for value in any_values() + [(), "", -1, -2, 2, 3, True, False, None, "0", (0,), [0], 10 ** 11]:
            if value.__class__ is int and value in (0, 1):
                continue
            self.refused(NoList, value, nth, book, "bea", value)
        for value in (1, True, False, -1):
            self.refused(NoList, value, nth, book, "ann", value)
        self.assertEqual([nth(book, "bea", 0), nth(book, "bea", 1)], [("cy", "dan", ""), ("dan", "cy", "")])


class LeavingTest(PairCase):

    def test_against_a_going_through_of_all(self):
        for seed in range(60):
            book = chance_book(seed, 3)
            rows = chance_lists(book, seed)
            for pairs in pairings(book.ones, book.others):
                self.assertEqual(kinds(leaving(book, rows, pairs)), kinds(leavers(book, rows, pairs)))

    def test_the_sequence(self):
        book = Book("ones b a\nothers y x")
        rows = (("", "x", "y"), ("", "x", "y"), ("", "a", "b"), ("", "b", "a"))
        self.assertEqual(leaving(book, rows, (("a", "x"), ("b", "y"))), (("b",), ("a",), ("y",), ("x",), ("b", "x")))
        rows = (("x", "y", ""), ("x", "y", ""), ("b", "a", ""), ("b", "a", ""))
        self.assertEqual(leaving(book, rows, ()), (("b", "y"), ("b", "x"), ("a", "y"), ("a", "x")))
        self.assertEqual(leaving(book, rows, (("a", "x"), ("b", "y"))), (("b", "x"),))
        self.assertEqual(leaving(book, rows, (("a", "y"), ("b", "x"))), ())
        rows = (("x", "", "y"), ("", "x", "y"), ("b", "", "a"), ("b", "", "a"))
        self.assertEqual(leaving(book, rows, (("a", "x"),)), (("a",), ("x",), ("b", "x")))

    def test_with_twelve_on_a_side(self):
        book = large()
        rows = tuple(book[person] for person in book.persons)
        together = tuple(zip(TWELVE_ONES, TWELVE_OTHERS))
        self.assertEqual(leaving(book, rows, together), ())
        turned = tuple(zip(TWELVE_ONES, TWELVE_OTHERS[::-1]))
        self.assertEqual(leaving(book, rows, turned), leavers(book, rows, turned))
        self.assertEqual(len(leaving(book, rows, turned)), 66)
        self.assertEqual(len(leaving(book, rows, ())), 144)
        alone = tuple(row[-1:] + row[:-1] for row in rows)
        self.assertEqual(leaving(book, alone, together), tuple((person,) for person in book.persons))
        self.assertEqual(leaving(book, alone, ()), ())

    def test_bad_pairs(self):
        book = Book("ones b a c\nothers y x")
        rows = first_lists(book)
        for value in any_values() + ["", "ax", ("a", "x"), (("a", "x"), ("a", "x")), (("b", "y"), ("a", "x")),
                                     (("a", "x"), ("a", "y")), (("a", "x"), ("b", "x")), (("x", "a"),), (("a", "b"),),
                                     (("x", "y"),), [("a", "x")], (["a", "x"],), (("a", "x", "y"),), (("a",),), (("a", ""),),
                                     (("", "x"),), (("a", "nobody"),), (("a", "z"),), (("d", "x"),), (("a", None),), ((),),
                                     (("a", ["x"]),), ((("a",), "x"),), ("ax",), {("a", "x"): 1}, (("c", "x"), ("b", "y")),
                                     (("a", "x"), ("b", "y"), ("c", "x")), (("a", "x"), None), (("a", True),)]:
            self.refused(BadPairs, value, leaving, book, rows, value)
        for pairs in ((), (("a", "x"),), (("a", "x"), ("b", "y")), (("b", "x"), ("c", "y"))):
            self.assertEqual(leaving(book, rows, pairs), leavers(book, rows, pairs))

    def test_pairs_ascend_by_names_and_not_by_persons(self):
        book = Book("ones b a\nothers y x")
        rows = first_lists(book)
        self.refused(BadPairs, value := (("b", "y"), ("a", "x")), leaving, book, rows, value)
        self.assertEqual(leaving(book, rows, (("a", "x"), ("b", "y"))), ())

    def test_bad_lists(self):
        book = Book(TEXT)
        rows = first_lists(book)
        for value in any_values() + [(), "", list(rows), rows[:3], rows + rows[:1], (("dan", "cy", ""),) + rows[1:],
                                     (list(rows[0]),) + rows[1:], (("cy", "dan", "nobody"),) + rows[1:]]:
            self.refused(BadLists, value, leaving, book, value, ())
            self.refused(BadLists, value, leaving, book, value, None)
            self.refused(BadLists, value, usual, book, value)


class UsualTest(PairCase):

    def best(self, book, rows):
        """The one steady pairing in which each of the ones has the best of all that they have in some."""
        found = steady(book, rows)
        best = []
        for one in book.ones:
            liked = rows[book.ones.index(one)]
            best.append(min((partner(pairs, one) for pairs in found), key=liked.index))
        chosen = [pairs for pairs in found if [partner(pairs, one) for one in book.ones] == best]
        self.assertEqual(len(chosen), 1)
        return chosen[0]

    def test_against_a_going_through_of_all(self):
        for seed in range(200):
            book = chance_book(seed, 3, seed % 9)
            rows = chance_lists(book, seed)
            self.assertEqual(kinds(usual(book, rows)), kinds(self.best(book, rows)), (book.text, rows))

    def test_of_the_sides_exchanged(self):
        differ = 0
        for seed in range(150):
            book = chance_book(seed, 3, seed % 3)
            if seed % 2:
                # Where nobody is liked least by all, what is best for the ones often is not for the others.
                liked = [(person, (choice, "")) for person in book.persons for choice in book[person][:-1]]
                book = Book(text_of(book.ones, book.others, liked))
            rows = chance_lists(book, seed)
            turned = rows[len(book.ones):] + rows[:len(book.ones)]
            found = usual(~book, turned)
            self.assertEqual(found, self.best(~book, turned))
            pairs = tuple(sorted((one, other) for other, one in found))
            self.assertEqual(leaving(book, rows, pairs), ())
            differ += pairs != usual(book, rows)
        self.assertGreater(differ, 0)

    def test_with_twelve_on_a_side(self):
        book = large()
        rows = tuple(book[person] for person in book.persons)
        self.assertEqual(usual(book, rows), tuple(zip(TWELVE_ONES, TWELVE_OTHERS)))
        alone = tuple(row[-1:] + row[:-1] for row in rows)
        self.assertEqual(usual(book, alone), ())
        # Each of the ones likes another one best, but each of the others likes the one behind that one best.
        turning = [TWELVE_OTHERS[at:] + TWELVE_OTHERS[:at] + ("",) for at in range(12)]
        answering = [(TWELVE_ONES + TWELVE_ONES)[at + 1:at + 13] + ("",) for at in range(12)]
        self.assertEqual(usual(book, tuple(turning + answering)), tuple(zip(TWELVE_ONES, TWELVE_OTHERS)))
        found = usual(~book, tuple(answering + turning))
        self.assertEqual(found, tuple(zip(TWELVE_OTHERS, TWELVE_ONES[1:] + TWELVE_ONES[:1])))

    def test_with_twelve_by_chance(self):
        for seed in range(4):
            book = with_chance(large(), seed, 30)
            rows = tuple(nth(book, person, how_many(book, person) * (seed + at) // 40)
                         for at, person in enumerate(book.persons))
            pairs = usual(book, rows)
            self.assertEqual([leaving(book, rows, pairs), leavers(book, rows, pairs)], [(), ()])
            self.assertEqual(pairs, tuple(sorted(pairs)))
            other = usual(~book, rows[12:] + rows[:12])
            for one, row in zip(book.ones, rows):
                worse = partner(tuple((a, b) for b, a in other), one)
                self.assertLessEqual(row.index(partner(pairs, one)), row.index(worse))

    def test_pairs_ascend_by_names(self):
        book = Book("ones zoe bob ann\nothers yan cy dan")
        rows = first_lists(book)
        self.assertEqual(rows[0], ("yan", "cy", "dan", ""))
        self.assertEqual(usual(book, rows), (("ann", "dan"), ("bob", "cy"), ("zoe", "yan")))

    def test_names_of_which_one_begins_another(self):
        book = Book("ones ab a abc\nothers x y z")
        rows = first_lists(book)
        self.assertEqual(usual(book, rows), (("a", "y"), ("ab", "x"), ("abc", "z")))

    def test_unlike_sides(self):
        book = Book("ones a\nothers w x y")
        rows = (("x", "w", "", "y"), ("a", ""), ("", "a"), ("a", ""))
        self.assertEqual(usual(book, rows), (("a", "w"),))
        self.assertEqual(usual(~book, rows[1:] + rows[:1]), (("w", "a"),))


class ConventionsTest(PairCase):

    def setUp(self):
        self.book = Book(TEXT)
        self.rows = first_lists(self.book)

    def test_the_first_error_is_told(self):
        self.refused(BadLists, None, leaving, self.book, None, 7)
        self.refused(BadPairs, None, leaving, self.book, self.rows, None)
        self.refused(NoPerson, True, nth, self.book, True, True)

    def test_names_of_arguments(self):
        self.assertIs(is_list(value=("cy", "dan", ""), person="ann", book=self.book), True)
        self.assertIs(are_lists(value=self.rows, book=self.book), True)
        self.assertEqual(how_many(person="bea", book=self.book), 2)
        self.assertEqual(nth(number=1, person="bea", book=self.book), ("dan", "cy", ""))
        pairs = (("ann", "dan"), ("bea", "cy"))
        self.assertEqual(leaving(pairs=pairs, lists=self.rows, book=self.book), (("ann", "cy"),))
        self.assertEqual(usual(lists=self.rows, book=self.book), (("ann", "cy"), ("bea", "dan")))

    def test_nothing_is_changed_and_equal_calls_tell_the_same(self):
        value = [["cy", "dan", ""]]
        for _ in range(2):
            self.assertIs(are_lists(self.book, value), False)
            self.refused(BadLists, value, usual, self.book, value)
            self.assertEqual(nth(self.book, "bea", 1), ("dan", "cy", ""))
            self.assertEqual(usual(self.book, self.rows), (("ann", "cy"), ("bea", "dan")))
        self.assertEqual(value, [["cy", "dan", ""]])
        self.assertEqual(self.book, Book(TEXT))
        self.assertEqual(self.book.ahead("bea", ""), ("cy", "dan"))


if __name__ == "__main__":
    unittest.main()
