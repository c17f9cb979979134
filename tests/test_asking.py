"""Points 2, 3 and 10: the fewest asks that bring a surely steady pairing."""

import random
import unittest

from factpairs import asking as module
from factpairs.asking import asks, shows_asks
from factpairs.books import Book
from factpairs.errors import TooManyOpen
from factpairs.pairings import Pairing
from factpairs.striking import steadied
from tests.helpers import (PairCase, TEXT, TWELVE_ONES, TWELVE_OTHERS, any_values, bent, choices_of, is_sure, kinds, large,
                           opened_book, pairings, rings, side_by_side, sure, text_of)


def open_questions(book, known):
    """All open questions, where known holds all that is sure."""
    return [(person, x, y) for person in book.ones + book.others for at, x in enumerate(choices_of(book, person))
            for y in choices_of(book, person)[at + 1:] if (person, x, y) not in known and (person, y, x) not in known]


def answered(known, person, x, y):
    """All that is sure if this person answers x rather than y."""
    ahead = [x] + [first for who, first, second in known if (who, second) == (person, x)]
    behind = [y] + [second for who, first, second in known if (who, first) == (person, y)]
    return known | {(person, first, second) for first in ahead for second in behind}


class Search:
    """A search of all plans for a book of few people."""

    def __init__(self, book):
        self.book = book
        self.pairings = pairings(book.ones, book.others)
        self.known = frozenset(sure(book))
        self.found = {}

    def sure_ones(self, known):
        """The pairings that are surely steady."""
        return [pairs for pairs in self.pairings if is_sure(known, self.book, pairs)]

    def answers(self, known, question):
        person, x, y = question
        return answered(known, person, x, y), answered(known, person, y, x)

    def least(self, known):
        """The least number of asks that some plan needs."""
        if known not in self.found:
            if self.sure_ones(known):
                self.found[known] = 0
            else:
                self.found[known] = 1 + min(max(self.least(more) for more in self.answers(known, question))
                                            for question in open_questions(self.book, known))
        return self.found[known]

    def needs(self, known, plan):
        """How many asks a plan needs; it must be a right one."""
        assert plan.__class__ is tuple and plan[0] in ("pairs", "ask") and len(plan) == (2 if plan[0] == "pairs" else 4)
        if plan[0] == "pairs":
            assert kinds(plan[1]) == kinds(tuple(tuple(pair) for pair in plan[1]))
            assert plan[1] == tuple(sorted(plan[1])) and is_sure(known, self.book, plan[1]), plan
            return 0
        assert plan[1] in open_questions(self.book, known) and kinds(plan[1]) == kinds(tuple(plan[1]))
        first, second = self.answers(known, plan[1])
        return 1 + max(self.needs(first, plan[2]), self.needs(second, plan[3]))

    def some_plan(self, known, most, chance):
        """Any plan of so many asks at the most, by chance."""
        found = self.sure_ones(known)
        if found and (most == 0 or chance.random() < 0.5):
            return ("pairs", chance.choice(found))
        questions = [question for question in open_questions(self.book, known)
                     if max(self.least(more) for more in self.answers(known, question)) < most]
        if not questions:
            return ("pairs", chance.choice(found))
        question = chance.choice(questions)
        first, second = self.answers(known, question)
        return ("ask", question, self.some_plan(first, most - 1, chance), self.some_plan(second, most - 1, chance))


def without_pairings(book):
    """A Search that asks only of plans, not of all pairings: for books whose pairings are too many."""
    search = Search.__new__(Search)
    search.book, search.known = book, frozenset(sure(book))
    return search


def parts(plan):
    """All plans within a plan, itself the first one."""
    return [plan] if plan[0] == "pairs" else [plan] + parts(plan[2]) + parts(plan[3])


def changed(plan, at, make):
    """The plan in which the plan with this number, as parts tells them, is what make tells of it."""
    if at == 0:
        return make(plan)
    first = len(parts(plan[2]))
    if at <= first:
        return plan[:2] + (changed(plan[2], at - 1, make), plan[3])
    return plan[:3] + (changed(plan[3], at - 1 - first, make),)


class AsksTest(PairCase):

    def check(self, book):
        """What asks tells, against a search of all plans; returns the number."""
        search = Search(book)
        told = asks(book)
        self.assertEqual([told.__class__, len(told)], [tuple, 2])
        self.assertEqual(kinds(told[0]), kinds(search.least(search.known)), book.text)
        self.assertEqual(search.needs(search.known, told[1]), told[0])
        self.assertIs(shows_asks(book, told), True)
        self.assertEqual(told[0] == 0, steadied(book)[0] == "pairing")
        return told[0]

    def test_what_the_interface_lists(self):
        for name in ("asks", "shows_asks"):
            self.assertEqual(getattr(module, name).__module__, "factpairs.asking")

    def test_against_a_search_of_all_plans(self):
        numbers = []
        for seed in range(260):
            numbers.append(self.check(opened_book(seed, 3, 2 + seed % 5)))
        for number in range(5):
            self.assertGreater(numbers.count(number), 10, number)

    def test_more_questions(self):
        numbers = set()
        for seed in range(40):
            book = opened_book(seed + 1000, 3, 7 + seed % 2)
            if len(open_questions(book, sure(book))) > 6:
                numbers.add(self.check(book))
        self.assertGreater(len(numbers), 3)

    def test_few_people_of_whom_little_is_known(self):
        self.assertEqual(self.check(Book("ones a\nothers x")), 2)
        self.assertEqual(self.check(Book("ones a\nothers x\nx rather a nobody")), 1)
        self.assertEqual(self.check(Book("ones a\nothers x\nx rather nobody a")), 0)
        self.assertEqual(self.check(Book("ones a\nothers x y")), 4)
        self.assertEqual(self.check(Book("ones a b\nothers x\na rather x nobody\nb rather x nobody")), 2)
        self.assertEqual(self.check(Book(TEXT)), 2)

    def test_an_ask_that_answers_others(self):
        # Three open questions of one person: two answers may leave the third one open no more.
        book = Book("ones a\nothers x y\nx rather a nobody\ny rather a nobody")
        self.assertEqual([len(open_questions(book, sure(book))), self.check(book)], [3, 2])

    def test_none_is_needed(self):
        book = side_by_side((10, 10, 3), 1)
        told = asks(book)
        self.assertEqual([told[0], told[1][0]], [0, "pairs"])
        self.assertTrue(is_sure(sure(book), book, told[1][1]))
        self.assertEqual(asks(rings(1))[0], 0)

    def test_eight_questions_and_nine(self):
        sayings = []
        for one, other in zip(TWELVE_ONES, TWELVE_OTHERS):
            rest = [name for name in TWELVE_OTHERS if name != other]
            sayings.extend([(one, (other, *rest)), (one, ("", *rest))])
            rest = [name for name in TWELVE_ONES if name != one]
            sayings.append((other, (one, "", *rest)))
        for many in range(10):
            # So many of the ones have not told whether they would rather have their partner than nobody.
            told = [(one, (other, "")) for one, other in list(zip(TWELVE_ONES, TWELVE_OTHERS))[many:]]
            book = Book(text_of(TWELVE_ONES, TWELVE_OTHERS, sayings + told))
            search = without_pairings(book)
            self.assertEqual(len(open_questions(book, search.known)), many)
            if many == 9:
                for value in [asks(Book(TEXT)), ("pairs", ()), *any_values()]:
                    self.refused(TooManyOpen, TooManyOpen(8).value, shows_asks, book, value)
                self.refused(TooManyOpen, TooManyOpen(8).value, asks, book)
            elif many in (0, 1, 2, 8):
                found = asks(book)
                self.assertEqual(found[0], many)
                self.assertEqual(search.needs(search.known, found[1]), many)
                self.assertEqual(len(parts(found[1])), 2 ** (many + 1) - 1)
                self.assertIs(shows_asks(book, found), True)

    def test_too_many_are_open_also_if_a_pairing_is_sure(self):
        book = Book("ones a\nothers x y z u\na rather x nobody\nx rather a nobody\ny rather nobody a\nz rather nobody a\n"
                    "u rather nobody a")
        self.assertEqual(len(open_questions(book, sure(book))), 9)
        self.assertEqual(steadied(book)[0], "pairing")
        self.refused(TooManyOpen, TooManyOpen(8).value, asks, book)
        self.refused(TooManyOpen, TooManyOpen(8).value, shows_asks, book, (0, ("pairs", (("a", "x"),))))
        more = book.said("a", ("y", "z"))
        self.assertEqual(asks(more), (0, ("pairs", (("a", "x"),))))

    def test_many_are_open(self):
        for book in (large(), Book("ones a b c\nothers x y z")):
            self.refused(TooManyOpen, TooManyOpen(8).value, asks, book)
            self.refused(TooManyOpen, TooManyOpen(8).value, asks, book=book)
            self.refused(TooManyOpen, TooManyOpen(8).value, shows_asks, book=book, value=0)

    def test_with_sixty_sayings(self):
        asked = 0
        for seed in range(25):
            book = opened_book(seed, 3, 4)
            few, sayings = asks(book), book.sayings
            while len(book) < 60:
                book = book.said(*sayings[len(book) % len(sayings)])
            self.assertEqual(asks(book), few)
            asked += self.check(book) > 0
        self.assertGreater(asked, 10)

    def test_large_books(self):
        numbers = set()
        for seed in range(12):
            book = opened_book(seed + 77, 12, 8)
            search = without_pairings(book)
            number, plan = asks(book)
            numbers.add(number)
            self.assertEqual(search.needs(search.known, plan), number)
            self.assertEqual(number == 0, steadied(book)[0] == "pairing")
            self.assertIs(shows_asks(book, (number, plan)), True)
            self.assertIs(shows_asks(book, (number + 1, plan)), False)
        self.assertIn(0, numbers)

    def test_several_groups_need_the_sum(self):
        # What is asked of one group tells nothing of another one.
        lines = TEXT.split("\n")
        for many in (1, 2):
            ones, others, sayings = [], [], []
            for letter in "ab"[:many]:
                first, second = [[letter + name for name in line.split(" ")[1:]] for line in lines[:2]]
                ones, others = ones + first, others + second
                sayings.extend((letter + person, tuple(choice and letter + choice for choice in row))
                               for person, row in Book(TEXT).sayings)
            for person in ones + others:
                rest = [name for name in (others if person in ones else ones) if name[0] != person[0]]
                sayings.extend([(person, ("", *rest))] if rest else [])
            book = Book(text_of(ones, others, sayings))
            self.assertEqual(len(open_questions(book, sure(book))), 3 * many)
            self.assertEqual(asks(book)[0], 2 * many)

    def test_sides_exchanged(self):
        for seed in range(60):
            book = opened_book(seed, 3, 5)
            self.assertEqual(asks(~book)[0], asks(book)[0])

    def test_by_position_and_by_name(self):
        book = Book(TEXT)
        self.assertEqual([asks(book=book), asks(book)], [asks(book)] * 2)
        self.assertIs(shows_asks(value=asks(book), book=book), True)
        self.assertIs(shows_asks(book, value=(0, ("pairs", ()))), False)
        self.assertEqual(book, Book(TEXT))


class ShowsAsksTest(PairCase):

    def cases(self, many=120):
        for seed in range(many):
            book = opened_book(seed, 3, 2 + seed % 5)
            yield book, Search(book), random.Random(seed)

    def test_other_right_plans(self):
        unlike = 0
        for book, search, chance in self.cases():
            number, plan = asks(book)
            for _ in range(4):
                other = search.some_plan(search.known, number, chance)
                unlike += other != plan
                self.assertEqual(search.needs(search.known, other), number)
                self.assertIs(shows_asks(book, (number, other)), True)
        self.assertGreater(unlike, 150)

    def test_plans_of_more_asks(self):
        more = 0
        for book, search, chance in self.cases():
            number = asks(book)[0]
            plan = search.some_plan(search.known, number + 1, chance)
            needs = search.needs(search.known, plan)
            more += needs > number
            for told in range(-1, 6):
                self.assertIs(shows_asks(book, (told, plan)), told == number == needs)
        self.assertGreater(more, 30)

    def test_another_number(self):
        for book, search, chance in self.cases(60):
            number, plan = asks(book)
            for value in (number + 1, number - 1, str(number), [number], (number,), None, plan):
                self.assertIs(shows_asks(book, (value, plan)), False)
        ask_once = Book("ones a\nothers x\nx rather a nobody")
        self.assertIs(shows_asks(ask_once, (1, asks(ask_once)[1])), True)
        self.assertIs(shows_asks(ask_once, (True, asks(ask_once)[1])), False)
        ask_never = Book("ones a\nothers x\nx rather nobody a")
        self.assertIs(shows_asks(ask_never, (0, ("pairs", ()))), True)
        self.assertIs(shows_asks(ask_never, (False, ("pairs", ()))), False)

    def is_right(self, search, number, plan):
        try:
            return search.needs(search.known, plan) == number
        except AssertionError:
            return False

    def test_branches_exchanged_cut_off_or_asked_more(self):
        wrong = 0
        for book, search, chance in self.cases(30):
            number, plan = asks(book)
            makes = [lambda part: part[:2] + part[:1:-1] if part[0] == "ask" else part,
                     lambda part: part[2] if part[0] == "ask" else part,
                     lambda part: part[3] if part[0] == "ask" else part,
                     lambda part: part[:1] + ((part[1][0], part[1][2], part[1][1]),) + part[2:] if part[0] == "ask" else part,
                     lambda part: ("ask", plan[1], part, part) if plan[0] == "ask" else part,
                     lambda part: ("pairs", ()),
                     lambda part: ("pairs", part[1][::-1]),
                     lambda part: ("pairs", part[1][1:]),
                     lambda part: part[:-1], lambda part: part + part[-1:], lambda part: part[1:]]
            for at in range(len(parts(plan))):
                for make in makes:
                    other = changed(plan, at, make)
                    try:
                        right = search.needs(search.known, other) == number
                    except (AssertionError, IndexError, TypeError, ValueError):
                        right = False
                    wrong += not right
                    self.assertIs(shows_asks(book, (number, other)), right, (book.text, other))
        self.assertGreater(wrong, 400)

    def test_asks_what_is_open_no_more(self):
        book = Book("ones a\nothers x y\nx rather a nobody\ny rather a nobody")
        end = ("pairs", (("a", "x"),))
        number, plan = asks(book)
        self.assertEqual(number, 2)
        again = ("ask", ("a", "x", "y"), ("ask", ("a", "x", "y"), end, end), ("pairs", (("a", "y"),)))
        self.assertIs(shows_asks(book, (2, again)), False)
        # Behind x rather than y and y rather than nobody, x rather than nobody is open no more.
        for question in (("a", "x", ""), ("a", "y", "x"), ("a", "y", "y"), ("x", "a", ""), ("a", "x", "z"), ("b", "x", "y")):
            again = ("ask", ("a", "x", "y"), ("ask", ("a", "y", ""), ("ask", question, end, end), end), end)
            self.assertIs(shows_asks(book, (3, again)), False)
            self.assertIs(shows_asks(book, (2, again)), False)

    def test_values_of_any_kind(self):
        for book in (Book(TEXT), Book("ones a\nothers x\nx rather nobody a"), Book("ones a\nothers x\nx rather a nobody")):
            number, plan = asks(book)
            for value in any_values():
                self.assertIs(shows_asks(book, value), False)
                self.assertIs(shows_asks(book, (number, value)), False)
                self.assertIs(shows_asks(book, (number, ("pairs", value))), number == 0 and value == ())
                self.assertIs(shows_asks(book, (number, ("ask", value, plan, plan))), False)
                self.assertIs(shows_asks(book, (number, plan, value)), False)
                if value != number or isinstance(value, bool):
                    self.assertIs(shows_asks(book, (value, plan)), False)
            for value in ((), (number,), [number, plan], (number, list(plan)), (plan, number), (number, ("pairs",)),
                          (number, ("none", ())), (number, ("ask",)), (number, Pairing(book, ()))):
                self.assertIs(shows_asks(book, value), False)

    def test_one_part_otherwise(self):
        for seed in range(20):
            book = opened_book(seed, 2, 3)
            search, told = Search(book), asks(book)
            for value in bent(told):
                try:
                    right = (kinds(value[0]) == kinds(told[0]) and len(value) == 2 and value.__class__ is tuple
                             and search.needs(search.known, value[1]) == value[0])
                except (AssertionError, IndexError, KeyError, TypeError, ValueError, AttributeError):
                    right = False
                self.assertIs(shows_asks(book, value), right, (book.text, value))


if __name__ == "__main__":
    unittest.main()
