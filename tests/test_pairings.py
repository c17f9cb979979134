"""Points 2, 3 and 6: pairings, and what comes of two that are surely steady."""

import unittest

from factpairs import pairings as module
from factpairs.books import Book
from factpairs.errors import BadPairs, NoPerson, NotSure, OtherBook, OtherPeople
from factpairs.pairings import Pairing
from tests.helpers import (PairCase, TEXT, TWELVE_ONES, TWELVE_OTHERS, any_values, bent, chance_book, is_sure, kinds, large,
                           pairings, partner, rings, sure, sure_pairings, telling_book, text_of, turned_about)

BOTH = (("ann", "dan"), ("bea", "cy"))


class TellingTest(PairCase):

    def setUp(self):
        self.book = Book(TEXT)
        self.pairing = Pairing(self.book, BOTH)

    def test_what_the_interface_lists(self):
        self.assertEqual(Pairing.__module__, "factpairs.pairings")
        self.assertEqual(module.Pairing, Pairing)
        self.assertIn("on", vars(Pairing))
        for name in ("book", "pairs", "alone"):
            self.assertTrue(hasattr(self.pairing, name))

    def test_properties(self):
        self.assertIs(self.pairing.book, self.book)
        self.assertEqual(kinds(self.pairing.pairs), kinds(BOTH))
        self.assertEqual(kinds(self.pairing.alone), kinds(()))
        self.assertEqual(kinds(Pairing(self.book, ()).alone), kinds(("ann", "bea", "cy", "dan")))
        self.assertEqual(Pairing(self.book, (("bea", "cy"),)).alone, ("ann", "dan"))

    def test_those_alone_stand_in_sequence(self):
        book = Book("ones d a c\nothers z x")
        self.assertEqual(Pairing(book, (("a", "x"),)).alone, ("d", "c", "z"))
        self.assertEqual(Pairing(book, (("c", "z"), ("d", "x"))).alone, ("a",))
        self.assertEqual(Pairing(book, ()).alone, ("d", "a", "c", "z", "x"))

    def test_all_pairings_of_few_people(self):
        for seed in range(20):
            book = chance_book(seed, 3)
            for pairs in pairings(book.ones, book.others):
                pairing = Pairing(book, pairs)
                self.assertEqual(kinds(pairing.pairs), kinds(pairs))
                self.assertEqual(kinds(len(pairing)), kinds(len(pairs)))
                self.assertEqual([pairing[person] for person in book.persons],
                                 [partner(pairs, person) for person in book.persons])
                self.assertEqual(pairing.alone, tuple(name for name in book.persons if partner(pairs, name) == ""))
                for one in book.ones:
                    for other in book.others:
                        self.assertIs((one, other) in pairing, (one, other) in pairs)
                        self.assertIs((other, one) in pairing, False)

    def test_twelve_on_a_side(self):
        pairs = tuple(zip(TWELVE_ONES, TWELVE_OTHERS[::-1]))
        pairing = Pairing(large(), pairs)
        self.assertEqual([len(pairing), pairing.alone, pairing["aa"], pairing["ba"]], [12, (), "bl", "al"])
        self.assertEqual(Pairing(large(), pairs[2:]).alone, ("aa", "ab", "bk", "bl"))

    def test_in_for_any_value(self):
        for value in any_values() + [(), "", BOTH, list(BOTH[0]), ["ann", "dan"], ("ann",), ("ann", "dan", ""), ("dan", "ann"),
                                     ("ann", "cy"), ("ann", ""), ("cy", ""), (("ann",), "dan"), ("ann", ["dan"]), "ann dan"]:
            self.assertIs(value in self.pairing, False, value)
            self.assertIs(value in Pairing(self.book, ()), False)
        for value in bent(("ann", "dan")):
            self.assertIs(value in self.pairing, False, value)
        self.assertIs(("ann", "dan") in self.pairing, True)
        self.assertIs(("bea", "cy") in self.pairing, True)

    def test_no_person(self):
        for value in any_values() + ["", (), "eve", ("ann",), ["ann"], BOTH[0]]:
            self.refused(NoPerson, value, self.pairing.__getitem__, value)

    def test_equal(self):
        self.assertIs(self.pairing == Pairing(Book(TEXT), tuple(list(BOTH))), True)
        self.assertIs(self.pairing != Pairing(Book(TEXT), BOTH), False)
        for other in (Pairing(self.book, BOTH[:1]), Pairing(self.book, ()), Pairing(self.book.unsaid(0), BOTH),
                      Pairing(self.book, (("ann", "cy"), ("bea", "dan"))), Pairing(self.book.said("ann", ("cy", "")), BOTH)):
            self.assertIs(self.pairing == other, False)
            self.assertIs(self.pairing != other, True)

    def test_equals_nothing_else(self):
        for value in any_values() + [BOTH, self.book, (self.book, BOTH), [self.pairing], (self.pairing,), ""]:
            self.assertIs(self.pairing == value, False)
            self.assertIs(value == self.pairing, False)
            self.assertIs(self.pairing != value, True)

    def test_names_of_arguments(self):
        self.assertEqual(Pairing(pairs=BOTH, book=self.book), self.pairing)
        self.assertEqual(self.pairing.on(book=self.book), self.pairing)

    def test_a_pairing_is_not_gone_over(self):
        with self.assertRaises(TypeError):
            list(self.pairing)


class BadPairsTest(PairCase):

    def setUp(self):
        self.book = Book("ones b a c\nothers y x z")

    def test_what_is_no_pairs(self):
        for value in any_values() + [
                "", "ax", ("a", "x"), (("a", "x"), ("a", "x")), (("b", "y"), ("a", "x")), (("a", "x"), ("a", "y")),
                (("a", "x"), ("b", "x")), (("x", "a"),), (("a", "b"),), (("x", "y"),), (("a", "x", "y"),), (("a",),),
                (("a", ""),), (("", "x"),), (("a", "nobody"),), (("a", "k"),), (("d", "x"),), ((),), ("ax",),
                {("a", "x"): 1}, (("a", "x"), ("y", "b")), (("c", "x"), ("b", "y")), (("ann", "cy"),)]:
            self.refused(BadPairs, value, Pairing, self.book, value)

    def test_bent_pairs(self):
        for pairs in ((("a", "x"),), (("a", "x"), ("b", "y")), (("a", "z"), ("b", "x"), ("c", "y"))):
            self.assertEqual(Pairing(self.book, pairs).pairs, pairs)
            for value in bent(pairs):
                self.refused(BadPairs, value, Pairing, self.book, value)

    def test_all_sequences_of_pairs(self):
        names = self.book.persons + ("", "k")
        triples = [(first, second) for first in names for second in names]
        for first in triples:
            good = first[0] in self.book.ones and first[1] in self.book.others
            if good:
                self.assertEqual(Pairing(self.book, (first,)).pairs, (first,))
            else:
                self.refused(BadPairs, value := (first,), Pairing, self.book, value)
            for second in triples:
                both = good and second[0] in self.book.ones and second[1] in self.book.others
                if both and first[0] < second[0] and first[1] != second[1]:
                    self.assertEqual(len(Pairing(self.book, (first, second))), 2)
                else:
                    self.refused(BadPairs, value := (first, second), Pairing, self.book, value)

    def test_pairs_ascend_by_names_and_not_by_persons(self):
        self.refused(BadPairs, value := (("b", "y"), ("a", "x")), Pairing, self.book, value)
        self.assertEqual(Pairing(self.book, (("a", "x"), ("b", "y")))["y"], "b")
        book = Book("ones ab a abc\nothers x y z")
        pairs = (("a", "z"), ("ab", "y"), ("abc", "x"))
        self.assertEqual(Pairing(book, pairs).pairs, pairs)
        value = (pairs[1], pairs[0], pairs[2])
        self.refused(BadPairs, value, Pairing, book, value)

    def test_pairs_of_the_sides_exchanged(self):
        self.refused(BadPairs, value := (("a", "x"),), Pairing, ~self.book, value)
        self.assertEqual(Pairing(~self.book, (("x", "a"),))["a"], "x")


class OnTest(PairCase):

    def test_by_another_book(self):
        book = Book(TEXT)
        more = book.said("bea", ("dan", "cy"))
        pairing = Pairing(book, BOTH)
        moved = pairing.on(more)
        self.assertIs(moved.book, more)
        self.assertEqual([moved, moved.pairs, moved.on(book)], [Pairing(more, BOTH), BOTH, pairing])
        self.assertEqual([pairing.book, pairing.pairs], [book, BOTH])
        self.assertIs(moved.__class__, Pairing)
        self.assertEqual(pairing.on(Book("ones ann bea\nothers cy dan")).alone, ())

    def test_other_people(self):
        pairing = Pairing(Book("ones a b\nothers x y\na rather x y"), (("a", "x"),))
        for head in ("ones b a\nothers x y", "ones a b\nothers y x", "ones a b\nothers x y z", "ones a b c\nothers x y",
                     "ones a b\nothers x", "ones a\nothers x y", "ones x y\nothers a b", "ones a b\nothers x k"):
            other = Book(head)
            self.refused(OtherPeople, other, pairing.on, other)
        self.assertEqual(pairing.on(Book("ones a b\nothers x y"))["a"], "x")


class LatticeTest(PairCase):

    def rather(self, known, person, first, second):
        return (person, first, second) in known

    def check_two(self, book, known, one, other):
        """What |, & and <= tell of two surely steady pairings, against what each of the ones surely would rather."""
        first, second = Pairing(book, one), Pairing(book, other)
        better, worse, below = [], [], True
        for person in sorted(book.ones):
            mine, theirs = partner(one, person), partner(other, person)
            mine_rather, theirs_rather = self.rather(known, person, mine, theirs), self.rather(known, person, theirs, mine)
            self.assertEqual(mine_rather + theirs_rather, mine != theirs)
            better.append((person, mine if mine_rather else theirs))
            worse.append((person, theirs if mine_rather else mine))
            below = below and not mine_rather
        told = [first | second, first & second]
        for made, wanted in zip(told, (better, worse)):
            self.assertIs(made.__class__, Pairing)
            self.assertEqual(made.book, book)
            self.assertEqual(kinds(made.pairs), kinds(tuple(pair for pair in wanted if pair[1])))
            self.assertTrue(is_sure(known, book, made.pairs))
            self.assertEqual(made.alone, first.alone)
        self.assertIs(first <= second, below)
        self.others_have_less(known, book, one, other, told[0], told[1])

    def others_have_less(self, known, book, one, other, better, worse):
        """Each of the others has in what is better for the ones whom they would rather not have."""
        for person in book.others:
            both = {partner(one, person), partner(other, person)}
            self.assertEqual({better[person], worse[person]}, both)
            if len(both) == 2:
                self.assertTrue(self.rather(known, person, worse[person], better[person]))

    def test_of_all_surely_steady_pairings(self):
        several = 0
        for seed in range(160):
            book = telling_book(seed, 4) if seed % 4 else chance_book(seed, 3, 12)
            known, found = sure(book), sure_pairings(book)
            several += len(found) > 1
            for one in found:
                for other in found:
                    self.check_two(book, known, one, other)
        self.assertGreater(several, 20)

    def test_the_same_people_are_alone(self):
        for seed in range(160):
            book = telling_book(seed, 4)
            self.assertLessEqual(len({Pairing(book, pairs).alone for pairs in sure_pairings(book)}), 1)

    def test_twelve_on_a_side(self):
        book = rings(6)
        known = sure(book)

        def chosen(mask):
            pairs = []
            for at, letter in enumerate("abcdef"):
                p, q, r, s = [letter + name for name in "pqrs"]
                pairs.extend([(p, r), (q, s)] if mask >> at & 1 else [(p, s), (q, r)])
            return tuple(sorted(pairs))

        for one, other in ((0, 63), (21, 42), (5, 7), (9, 9), (63, 1), (33, 12)):
            self.check_two(book, known, chosen(one), chosen(other))
            first, second = Pairing(book, chosen(one)), Pairing(book, chosen(other))
            self.assertEqual([(first | second).pairs, (first & second).pairs], [chosen(one | other), chosen(one & other)])
            self.assertIs(first <= second, one & other == one)

    def test_with_the_sides_exchanged(self):
        for seed in range(120):
            book = telling_book(seed, 3)
            for one in sure_pairings(book):
                for other in sure_pairings(book):
                    first, second = Pairing(book, one), Pairing(book, other)
                    mine, theirs = Pairing(~book, turned_about(one)), Pairing(~book, turned_about(other))
                    self.assertEqual((mine & theirs).pairs, turned_about((first | second).pairs))
                    self.assertEqual((mine | theirs).pairs, turned_about((first & second).pairs))
                    self.assertIs(mine <= theirs, second <= first)

    def test_pairs_ascend_by_names(self):
        sayings = [("d", ("z", "x", "")), ("a", ("x", "z", "")), ("z", ("a", "d", "")), ("x", ("d", "a", ""))]
        book = Book(text_of("da", "zx", sayings))
        one, other = Pairing(book, (("a", "x"), ("d", "z"))), Pairing(book, (("a", "z"), ("d", "x")))
        self.assertEqual([(one | other), (one & other), one <= other, other <= one], [one, other, False, True])

    def test_other_book(self):
        book = rings(1)
        one, unsure = (("ap", "ar"), ("aq", "as")), (("ap", "ar"),)
        for other in (book.said("ap", ("ar", "as")), book.unsaid(0), Book("ones ap aq\nothers ar as"), ~~book.unsaid(3)):
            for mine in (one, unsure):
                for theirs in (one, unsure):
                    pairing = Pairing(other, theirs)
                    for call in (Pairing(book, mine).__or__, Pairing(book, mine).__and__, Pairing(book, mine).__le__):
                        self.refused(OtherBook, pairing, call, pairing)
        turned = Pairing(~book, turned_about(one))
        self.refused(OtherBook, turned, Pairing(book, one).__or__, turned)

    def test_not_sure(self):
        book = rings(1)
        sure_one = Pairing(book, (("ap", "ar"), ("aq", "as")))
        for pairs in ((), (("ap", "ar"),), (("aq", "ar"),)):
            unsure, another = Pairing(book, pairs), Pairing(book, ())
            for call in ("__or__", "__and__", "__le__"):
                self.refused(NotSure, unsure, getattr(unsure, call), sure_one)
                self.refused(NotSure, unsure, getattr(sure_one, call), unsure)
                self.refused(NotSure, unsure, getattr(unsure, call), another)
                self.refused(NotSure, another, getattr(another, call), unsure)

    def test_books_of_one_text_are_equal(self):
        one = Pairing(rings(1), (("ap", "ar"), ("aq", "as")))
        other = Pairing(rings(1), (("ap", "as"), ("aq", "ar")))
        self.assertEqual([one | other, one & other, other <= one], [one, other, True])

    def test_with_other_values(self):
        pairing = Pairing(rings(1), (("ap", "ar"), ("aq", "as")))
        for value in (None, 3, "text", pairing.pairs, pairing.book):
            with self.assertRaises(TypeError):
                pairing | value
            with self.assertRaises(TypeError):
                pairing & value
            with self.assertRaises(TypeError):
                pairing <= value

    def test_not_sure_by_chance(self):
        for seed in range(60):
            book = telling_book(seed, 2)
            known = sure(book)
            for one in pairings(book.ones, book.others):
                for other in pairings(book.ones, book.others):
                    first, second = Pairing(book, one), Pairing(book, other)
                    wrong = [pairing for pairing in (first, second) if not is_sure(known, book, pairing.pairs)]
                    if wrong:
                        self.refused(NotSure, wrong[0], first.__or__, second)
                        self.refused(NotSure, wrong[0], first.__and__, second)
                        self.refused(NotSure, wrong[0], first.__le__, second)
                    else:
                        self.check_two(book, known, one, other)

    def test_pairings_stay_as_they_are(self):
        book = rings(2)
        one = Pairing(book, (("ap", "ar"), ("aq", "as"), ("bp", "bs"), ("bq", "br")))
        other = Pairing(book, (("ap", "as"), ("aq", "ar"), ("bp", "br"), ("bq", "bs")))
        ahead = [kinds([pairing.book.text, pairing.pairs, pairing.alone]) for pairing in (one, other)]
        told = [one | other, one & other, one <= other, one.on(book)]
        with self.assertRaises(NotSure):
            one | Pairing(book, ())
        self.assertEqual([one | other, one & other, one <= other, one.on(book)], told)
        self.assertEqual([kinds([pairing.book.text, pairing.pairs, pairing.alone]) for pairing in (one, other)], ahead)


if __name__ == "__main__":
    unittest.main()
