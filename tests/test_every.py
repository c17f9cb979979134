"""Points 2, 3 and 8: all surely steady pairings of a book."""

import unittest
from math import prod

from factpairs import every as module
from factpairs.books import Book
from factpairs.errors import NoneSure, TooMany
from factpairs.every import always, count, every, lonely, sometimes, steps
from factpairs.judging import judged
from factpairs.pairings import Pairing
from factpairs.striking import steadied
from tests.helpers import (GROUPS, PairCase, TEXT, chance_book, is_sure, kinds, large, pairings, partner, rings, side_by_side,
                           sure, sure_pairings, telling_book, turned_about, with_chance)

ALL = (always, sometimes, lonely, every, count, steps)


def ranks(known, book, pairs, side):
    """For each person of a side, how many choices they surely would rather have than whom they have."""
    return tuple(sum((person, choice, partner(pairs, person)) in known for choice in book[person]) for person in side)


def is_below(known, book, one, other):
    """Whether each of the ones has in other the same partner as in one, or one whom they surely would rather have."""
    return all(partner(one, person) == partner(other, person)
               or (person, partner(other, person), partner(one, person)) in known for person in book.ones)


def longest(known, book, all_pairs):
    """How many pairings stand in the longest row, each unlike the next one and below it."""
    # Whatever is below another one leaves more to be liked, so this sequence goes up.
    rising = sorted(all_pairs, key=lambda pairs: -sum(ranks(known, book, pairs, book.ones)))
    lengths = []
    for at, pairs in enumerate(rising):
        lengths.append(1 + max([lengths[back] for back in range(at) if is_below(known, book, rising[back], pairs)], default=0))
    return max(lengths)


def best_for(known, book, all_pairs, side):
    """The pairing in which all of a side have the partner whom they surely would rather have than all others."""
    found = [pairs for pairs in all_pairs if all(
        partner(pairs, person) == partner(other, person) or (person, partner(pairs, person), partner(other, person)) in known
        for other in all_pairs for person in side)]
    assert len(found) == 1
    return found[0]


class EveryCase(PairCase):

    def check(self, book, known, expected):
        """All that is told of a book with these surely steady pairings, at least one and at most 200."""
        self.assertEqual(kinds(always(book)), kinds(tuple(sorted(set.intersection(*map(set, expected))))))
        self.assertEqual(kinds(sometimes(book)), kinds(tuple(sorted(set().union(*expected)))))
        taken = {name for pair in expected[0] for name in pair}
        self.assertEqual(kinds(lonely(book)), kinds(tuple(name for name in book.ones + book.others if name not in taken)))
        self.assertEqual(kinds(count(book)), kinds(len(expected)))
        told = every(book)
        self.assertIs(told.__class__, tuple)
        self.assertEqual(kinds(tuple(pairing.pairs for pairing in told)), kinds(tuple(expected)))
        for pairing in told:
            self.assertIs(pairing.__class__, Pairing)
            self.assertEqual(pairing.book, book)
        self.check_steps(book, known, expected, steps(book))

    def check_steps(self, book, known, expected, row):
        self.assertIs(row.__class__, tuple)
        self.assertEqual({pairing.__class__ for pairing in row}, {Pairing})
        self.assertTrue(all(pairing.book == book for pairing in row))
        pairs = [pairing.pairs for pairing in row]
        self.assertLessEqual(set(pairs), set(expected))
        self.assertEqual(pairs[0], best_for(known, book, expected, book.others))
        self.assertEqual(pairs[-1], best_for(known, book, expected, book.ones))
        for below, above in zip(pairs, pairs[1:]):
            self.assertNotEqual(below, above)
            self.assertTrue(is_below(known, book, below, above))
        self.assertEqual(len(row), longest(known, book, expected))


class EveryTest(EveryCase):

    def test_what_the_interface_lists(self):
        for name in ("always", "sometimes", "lonely", "every", "count", "steps"):
            self.assertEqual(getattr(module, name).__module__, "factpairs.every")

    def test_against_all_pairings(self):
        counts = []
        for seed in range(700):
            book = chance_book(seed, 3, 14) if seed % 4 == 0 else telling_book(seed, 3 + seed % 2)
            known, expected = sure(book), sure_pairings(book)
            counts.append(len(expected))
            if expected:
                self.check(book, known, expected)
            else:
                for call in ALL:
                    self.refused(NoneSure, book, call, book)
        for number in (0, 1, 2, 3):
            self.assertGreater(counts.count(number), 15, number)

    def test_groups_of_four(self):
        for number, group in GROUPS.items():
            book = side_by_side([number], seed=number)
            expected = sure_pairings(book)
            self.assertEqual(len(expected), number)
            self.check(book, sure(book), expected)
            # What is not told of some leaves fewer, but mostly still some.
            less = book.unsaid(number % len(book))
            if sure_pairings(less):
                self.check(less, sure(less), sure_pairings(less))

    def test_groups_side_by_side(self):
        for seed, (numbers, alone) in enumerate([((2, 2), 0), ((2, 1), 1), ((3, 2), 0), ((1, 2), 2), ((2,), 3), ((4,), 1)]):
            book = side_by_side(numbers, alone, seed)
            expected = sure_pairings(book)
            self.assertEqual(len(expected), prod(numbers))
            self.assertEqual(len(lonely(book)), 2 * alone)
            self.check(book, sure(book), expected)

    def test_sequence_goes_by_names_not_by_places(self):
        book = Book("ones bb b a\nothers y x yy\na rather x nobody\nb rather yy nobody\nbb rather y nobody\n"
                    "x rather a nobody\ny rather bb nobody\nyy rather b nobody\n"
                    "a rather nobody y yy\nb rather nobody y x\nbb rather nobody yy x")
        self.assertEqual(always(book), (("a", "x"), ("b", "yy"), ("bb", "y")))
        self.assertEqual(sometimes(book), always(book))
        self.assertEqual(every(book), (Pairing(book, always(book)),))

    def test_nobody_together(self):
        book = Book("ones b a\nothers y\na rather nobody y\nb rather nobody y")
        self.assertEqual([always(book), sometimes(book), lonely(book), count(book)], [(), (), ("b", "a", "y"), 1])
        self.assertEqual([every(book), steps(book)], [(Pairing(book, ()),)] * 2)

    def test_none_is_sure(self):
        for book in (Book("ones a\nothers x"), Book(TEXT), large(), Book("ones a\nothers x\na rather x nobody")):
            self.assertEqual(steadied(book)[0], "none")
            for call in ALL:
                self.refused(NoneSure, book, call, book)
                self.refused(NoneSure, book, call, book=book)

    def test_none_is_sure_where_one_of_many_is_silent(self):
        for number in range(10):
            book = side_by_side((10, 10, 10), 0, number)
            self.refused(TooMany, TooMany(200).value, count, book)
            less = book.unsaid(number)
            self.assertEqual(steadied(less)[0], "none")
            for call in ALL:
                self.refused(NoneSure, less, call, less)

    def test_by_position_and_by_name(self):
        book = rings(2)
        for call in ALL:
            self.assertEqual(call(book), call(book=book))

    def test_calls_change_nothing(self):
        book = rings(3)
        before = [call(book) for call in ALL]
        text, sayings = book.text, book.sayings
        for call in ALL:
            call(book)
        self.assertEqual([call(book) for call in ALL], before)
        self.assertEqual([call(Book(book.text)) for call in ALL], before)
        self.assertEqual((book.text, book.sayings), (text, sayings))


class TooManyTest(EveryCase):

    def check_large(self, book, numbers):
        """What is told of groups side by side, by what is told of each of them."""
        known = sure(book)
        groups = {}
        for person in book.ones + book.others:
            groups.setdefault(person[0], []).append(person)
        told = sometimes(book)
        self.assertTrue(all(one[0] == other[0] for one, other in told))
        some, all_sure, alone = set(), set(), set()
        for letter, persons in groups.items():
            ones, others = [p for p in persons if p in book.ones], [p for p in persons if p in book.others]
            within = {triple for triple in known if triple[0] in persons}
            part = Book("ones " + " ".join(ones) + "\nothers " + " ".join(others)) if ones and others else None
            found = [()] if part is None else [pairs for pairs in pairings(part.ones, part.others)
                                               if is_sure(within, part, pairs)]
            some.update(*found)
            all_sure.update(set.intersection(*map(set, found)))
            alone.update(set(persons) - {name for pair in found[0] for name in pair})
        self.assertEqual(told, tuple(sorted(some)))
        self.assertEqual(always(book), tuple(sorted(all_sure)))
        self.assertEqual(lonely(book), tuple(person for person in book.ones + book.others if person in alone))

    def test_just_two_hundred(self):
        for alone, seed in ((0, 1), (2, 2)):
            book = side_by_side((10, 2, 10), alone, seed)
            known = sure(book)
            told = every(book)
            self.assertEqual([count(book), len(told)], [200, 200])
            rows = [pairing.pairs for pairing in told]
            self.assertEqual(rows, sorted(set(rows)))
            self.assertTrue(all(is_sure(known, book, pairs) for pairs in rows))
            self.check_large(book, (10, 2, 10))
            self.check_steps(book, known, rows, steps(book))

    def test_more_than_two_hundred(self):
        for at, (numbers, alone) in enumerate([((10, 7, 3), 0), ((10, 7, 3), 1), ((6, 6, 6), 0), ((8, 3, 10), 1), ((10, 10, 3), 1),
                                               ((10, 10, 10), 0)]):
            book = side_by_side(numbers, alone, at)
            self.assertGreater(prod(numbers), 200)
            for call in (every, count, steps):
                self.refused(TooMany, TooMany(200).value, call, book)
            self.check_large(book, numbers)

    def test_some_fewer_than_two_hundred(self):
        for numbers, alone in (((7, 7, 4), 0), ((3, 3, 3, 3), 0), ((2,) * 6, 0), ((6, 8, 4), 0), ((2,) * 5, 2), ((8, 8, 3), 1)):
            book = side_by_side(numbers, alone, len(numbers))
            self.assertEqual([count(book), len(every(book))], [prod(numbers)] * 2)
            # In groups of so many that go round, each goes up by its own steps.
            self.assertEqual(len(steps(book)) - 1, sum(len(steps(side_by_side([number]))) - 1 for number in numbers))
            self.check_large(book, numbers)


class WithOthersTest(EveryCase):

    def test_with_strikes(self):
        for seed in range(120):
            book = telling_book(seed, 3 + seed % 2)
            if not sure_pairings(book):
                continue
            for pairing in every(book):
                for side in ("ones", "others"):
                    self.assertEqual(steadied(book, bound=pairing.pairs, side=side), ("pairing", pairing))
                self.assertEqual(judged(pairing), ("sure",))
            some, surely = sometimes(book), always(book)
            for one in book.ones:
                for other in book.others:
                    pair = (one, other)
                    self.assertEqual(steadied(book, bound=(pair,))[0], "pairing" if pair in some else "none")
                    self.assertEqual(steadied(book, barred=(pair,))[0], "none" if pair in surely else "pairing")

    def test_better_for_all(self):
        for seed in range(60):
            book = telling_book(seed, 4) if seed % 2 else side_by_side([(3, 4, 6, 7, 8, 10)[seed % 6]], 0, seed)
            if not sure_pairings(book):
                continue
            told = every(book)
            row = steps(book)
            for below, above in zip(row, row[1:]):
                self.assertTrue(below <= above)
                self.assertFalse(above <= below)
            for one in told:
                self.assertTrue(row[0] <= one <= row[-1])
                self.assertEqual(one.alone, lonely(book))
                for other in told:
                    self.assertIn(one | other, told)
                    self.assertIn(one & other, told)
                    for person in book.persons:
                        x, y = one[person], other[person]
                        self.assertTrue(x == y or (person, x, y) in book or (person, y, x) in book)

    def test_more_said_keeps_them(self):
        for seed in range(100):
            book = telling_book(seed, 3)
            if not sure_pairings(book):
                continue
            more = with_chance(book, seed)
            kept = [pairing.pairs for pairing in every(more)]
            self.assertLessEqual({pairing.pairs for pairing in every(book)}, set(kept))
            self.assertEqual([lonely(book), set(sometimes(book)) - set(sometimes(more))], [lonely(more), set()])

    def test_what_both_tell_is_so_by_each(self):
        for seed in range(80):
            book = telling_book(seed, 3)
            one, other = with_chance(book, seed), with_chance(book, seed + 1000)
            both = one & other
            if sure_pairings(both):
                shared = {pairing.pairs for pairing in every(both)}
                for each in (one, other):
                    self.assertLessEqual(shared, {pairing.pairs for pairing in every(each)})

    def test_sides_exchanged(self):
        books = [telling_book(seed, 3 + seed % 2) for seed in range(80)]
        books.extend(side_by_side(numbers, alone, 5) for numbers, alone in [((10, 2), 1), ((7,), 0), ((3, 4), 2), ((6, 2), 0)])
        several = 0
        for book in books:
            back = ~book
            if steadied(book)[0] == "none":
                for call in ALL:
                    self.refused(NoneSure, back, call, back)
                continue
            self.assertEqual(always(back), turned_about(always(book)))
            self.assertEqual(sometimes(back), turned_about(sometimes(book)))
            self.assertEqual(lonely(back), tuple(person for person in back.persons if person in lonely(book)))
            self.assertEqual(count(back), count(book))
            several += count(book) > 1
            turned = sorted(turned_about(pairing.pairs) for pairing in every(book))
            self.assertEqual([pairing.pairs for pairing in every(back)], turned)
            self.assertEqual(len(steps(back)), len(steps(book)))
            # The best for the ones of one book is the best for the others of the other one.
            self.assertEqual(steps(back)[0].pairs, turned_about(steps(book)[-1].pairs))
            self.assertEqual(steps(back)[-1].pairs, turned_about(steps(book)[0].pairs))
        self.assertGreater(several, 10)


if __name__ == "__main__":
    unittest.main()
