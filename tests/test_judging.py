"""Points 2, 3 and 6: whether pairings are steady by all lists, by some, or by none."""

import unittest
from itertools import product

from factpairs import judging as module
from factpairs.books import Book
from factpairs.errors import PairError
from factpairs.judging import judged, shows_judged
from factpairs.pairings import Pairing
from tests.helpers import (PairCase, TEXT, TWELVE_ONES, TWELVE_OTHERS, any_values, bent, chance_book, is_sure, kinds, large,
                           leavers, lists_of, pairings, partner, refusing, rings, sure, sure_pairings, telling_book, text_of,
                           turned_about, with_chance)


def all_lists(book):
    """All lists of a book of few people."""
    return list(product(*[lists_of(book, person) for person in book.ones + book.others]))


def keeps(known, book, lists):
    """Whether lists keep the book, found without going through all lists."""
    for person, row in zip(book.ones + book.others, lists):
        choices = (book.others if person in book.ones else book.ones) + ("",)
        if sorted(row) != sorted(choices) or any((person, y, x) in known for at, x in enumerate(row) for y in row[at:]):
            return False
    return len(lists) == len(book.ones + book.others)


class JudgingCase(PairCase):

    def check(self, book, known, pairs):
        """What judged tells of a pairing, against the document's words; returns the word."""
        pairing = Pairing(book, pairs)
        told = judged(pairing)
        self.assertIs(told.__class__, tuple)
        refused = refusing(known, book, pairs)
        if refused:
            self.assertEqual([len(told), told[0]], [2, "never"])
            self.assertIn(kinds(told[1]), kinds(refused)[1])
        elif is_sure(known, book, pairs):
            self.assertEqual(kinds(told), kinds(("sure",)))
        else:
            self.assertEqual([len(told), told[0]], [4, "open"])
            self.assertTrue(keeps(known, book, told[1]) and keeps(known, book, told[2]))
            self.assertEqual(kinds(told[1:3]), kinds(tuple(tuple(tuple(row) for row in part) for part in told[1:3])))
            self.assertEqual(leavers(book, told[1], pairs), ())
            self.assertIn(kinds(told[3]), kinds(leavers(book, told[2], pairs))[1])
        self.assertIs(shows_judged(pairing, told), True)
        for word in ("sure", "open", "never"):
            if word != told[0]:
                self.assertIs(shows_judged(pairing, (word,) + told[1:]), False)
        return told[0]


class JudgedTest(JudgingCase):

    def test_what_the_interface_lists(self):
        for name in ("judged", "shows_judged"):
            self.assertEqual(getattr(module, name).__module__, "factpairs.judging")

    def test_against_all_lists(self):
        words = []
        for seed in range(50):
            book = chance_book(seed, 2, 6) if seed % 3 else telling_book(seed, 2)
            lists = all_lists(book)
            for pairs in pairings(book.ones, book.others):
                many = sum(leavers(book, rows, pairs) == () for rows in lists)
                words.append("never" if many == 0 else "sure" if many == len(lists) else "open")
                self.assertEqual(judged(Pairing(book, pairs))[0], words[-1], (book.text, pairs))
        for word in ("never", "sure", "open"):
            self.assertGreater(words.count(word), 10)

    def test_all_pairings_of_up_to_three_on_a_side(self):
        words = []
        for seed in range(100):
            book = chance_book(seed, 3, seed % 14) if seed % 3 else telling_book(seed, 3)
            known = sure(book)
            words.extend(self.check(book, known, pairs) for pairs in pairings(book.ones, book.others))
        for word in ("never", "sure", "open"):
            self.assertGreater(words.count(word), 30)

    def test_unlike_sides(self):
        for others in ("x", "xy", "xyz", "xyzwk"):
            book = Book(text_of("a", others, [("a", ("x", "")), ("x", ("a", ""))]))
            for seed in range(8):
                more = with_chance(book, seed, 6)
                for pairs in pairings(more.ones, more.others):
                    self.check(more, sure(more), pairs)
                for pairs in pairings(more.others, more.ones):
                    self.check(~more, sure(~more), pairs)

    def test_each_word_by_hand(self):
        book = Book("ones a\nothers x")
        self.assertEqual(judged(Pairing(book, ()))[0], "open")
        self.assertEqual(judged(Pairing(book, ()))[1:], ((("", "x"), ("", "a")), (("x", ""), ("a", "")), ("a", "x")))
        self.assertEqual(judged(Pairing(book, (("a", "x"),)))[:3], ("open", (("x", ""), ("a", "")), (("", "x"), ("", "a"))))
        one_wants = book.said("a", ("x", ""))
        self.assertEqual([judged(Pairing(one_wants, pairs))[0] for pairs in ((), (("a", "x"),))], ["open", "open"])
        self.assertEqual(judged(Pairing(one_wants, (("a", "x"),)))[3], ("x",))
        both_want = one_wants.said("x", ("a", ""))
        self.assertEqual(judged(Pairing(both_want, ())), ("never", ("a", "x")))
        self.assertEqual(judged(Pairing(both_want, (("a", "x"),))), ("sure",))
        refused = book.said("x", ("", "a"))
        self.assertEqual(judged(Pairing(refused, ())), ("sure",))
        self.assertEqual(judged(Pairing(refused, (("a", "x"),))), ("never", ("x",)))

    def test_twelve_who_said_nothing(self):
        together = tuple(zip(TWELVE_ONES, TWELVE_OTHERS))
        for pairs in ((), together, together[3:7], tuple(zip(TWELVE_ONES, TWELVE_OTHERS[::-1]))):
            self.assertEqual(self.check(large(), set(), pairs), "open")

    def test_twelve_of_whom_just_one_pairing_is_sure(self):
        sayings = []
        for at, (one, other) in enumerate(zip(TWELVE_ONES, TWELVE_OTHERS)):
            rest = TWELVE_OTHERS[:at] + TWELVE_OTHERS[at + 1:]
            sayings.extend([(one, (other,) + rest[::-1] + ("",)), (other, (one, ""))])
        book = large(sayings)
        known, pairs = sure(book), tuple(zip(TWELVE_ONES, TWELVE_OTHERS))
        self.assertEqual(self.check(book, known, pairs), "sure")
        for at in range(12):
            # Whoever is not together with the only one who surely wants them leaves, or may leave.
            self.assertEqual(self.check(book, known, pairs[:at] + pairs[at + 1:]), "never")
            after = (at + 1) % 12
            swapped = dict(pairs)
            swapped[TWELVE_ONES[at]], swapped[TWELVE_ONES[after]] = TWELVE_OTHERS[after], TWELVE_OTHERS[at]
            self.assertEqual(self.check(book, known, tuple(sorted(swapped.items()))), "open")
        for number in range(24):
            less = book.unsaid(number)
            self.assertEqual(self.check(less, sure(less), pairs), "open")
            self.assertIn(sayings[number][0], judged(Pairing(less, pairs))[3])

    def test_twelve_by_chance(self):
        for seed in range(12):
            book = with_chance(large(), seed, 60)
            known = sure(book)
            for many in (0, 5, 12):
                pairs = tuple(zip(TWELVE_ONES[:many], TWELVE_OTHERS[seed % 3:] + TWELVE_OTHERS[:seed % 3]))
                self.check(book, known, pairs)

    def test_rings_of_twelve(self):
        book = rings(6)
        pairs = tuple(sorted((letter + one, letter + other) for letter in "abcdef" for one, other in (("p", "r"), ("q", "s"))))
        self.assertEqual(self.check(book, sure(book), pairs), "sure")
        # In each ring the ones hold whom they want most, so only whoever is in a pair may have less to say.
        words = [self.check(book.unsaid(number), sure(book.unsaid(number)), pairs) for number in range(len(book))]
        self.assertEqual(set(words), {"sure", "open"})
        self.assertEqual(self.check(book, sure(book), pairs[1:]), "never")

    def test_the_sides_exchanged(self):
        for seed in range(60):
            book = chance_book(seed, 3, 9)
            for pairs in pairings(book.ones, book.others):
                pairing, turned = Pairing(book, pairs), Pairing(~book, turned_about(pairs))
                told = judged(pairing)
                self.assertEqual(judged(turned)[0], told[0])
                if told[0] == "open":
                    many = len(book.ones)
                    lists = [part[many:] + part[:many] for part in told[1:3]]
                    self.assertIs(shows_judged(turned, ("open", lists[0], lists[1], told[3][::-1])), True)
                if told[0] == "never":
                    self.assertIs(shows_judged(turned, ("never", told[1][::-1])), True)

    def test_more_said(self):
        kept = 0
        for seed in range(150):
            book = telling_book(seed, 3)
            more = with_chance(book, seed + 1, 6)
            for pairs in sure_pairings(book):
                kept += len(more) > len(book)
                self.assertEqual(judged(Pairing(book, pairs).on(more)), ("sure",))
        self.assertGreater(kept, 50)

    def test_what_both_books_tell(self):
        found = 0
        for seed in range(150):
            base = telling_book(seed, 3)
            one, other = with_chance(base, seed + 1, 4), with_chance(base, seed + 2, 4)
            for pairs in sure_pairings(one & other):
                found += 1
                pairing = Pairing(one & other, pairs)
                self.assertEqual([judged(pairing), judged(pairing.on(one)), judged(pairing.on(other))], [("sure",)] * 3)
        self.assertGreater(found, 50)

    def test_names_of_arguments(self):
        pairing = Pairing(Book(TEXT), ())
        self.assertEqual(judged(pairing=pairing), judged(pairing))
        self.assertIs(shows_judged(value=judged(pairing), pairing=pairing), True)

    def test_equal_calls_tell_the_same_and_change_nothing(self):
        book = Book(TEXT)
        for pairs in pairings(book.ones, book.others):
            pairing = Pairing(book, pairs)
            told = [judged(pairing), judged(Pairing(Book(TEXT), pairs)), judged(pairing)]
            self.assertEqual([kinds(told[0])] * 3, [kinds(answer) for answer in told])
            self.assertEqual([pairing, pairing.pairs, book.text], [Pairing(Book(TEXT), pairs), pairs, TEXT])


class ShowsJudgedTest(JudgingCase):

    def test_each_right_answer(self):
        for seed in range(12):
            book = chance_book(seed, 2, 7)
            lists, known = all_lists(book), sure(book)
            lists = lists[::max(1, len(lists) // 12)]
            people = [(name,) for name in book.persons] + [(one, other) for one in book.persons for other in book.persons]
            for pairs in pairings(book.ones, book.others):
                pairing = Pairing(book, pairs)
                left = [leavers(book, rows, pairs) for rows in lists]
                for rows, gone in zip(lists, left):
                    for others, leave in zip(lists, left):
                        for who in people:
                            right = gone == () and who in leave
                            self.assertIs(shows_judged(pairing, ("open", rows, others, who)), right)
                for who in people:
                    self.assertIs(shows_judged(pairing, ("never", who)), who in refusing(known, book, pairs))
                self.assertIs(shows_judged(pairing, ("sure",)), is_sure(known, book, pairs))

    def test_all_who_leave_of_twelve(self):
        book = large()
        pairing = Pairing(book, tuple(zip(TWELVE_ONES, TWELVE_OTHERS)))
        told = judged(pairing)
        gone = leavers(book, told[2], pairing.pairs)
        for who in gone:
            self.assertIs(shows_judged(pairing, told[:3] + (who,)), True)
        for who in (("aa", "ba"), ("ba", "aa"), ("aa", "ab"), (), ("",), "aa", ["aa"], ("aa", ""), gone):
            self.assertIs(shows_judged(pairing, told[:3] + (who,)), False)
        never = Pairing(large([("aa", ("", "ba")), ("bb", ("", "ab")), ("ac", ("bd", "bc")), ("bd", ("ac", "ad"))]), pairing.pairs)
        for who in (("aa",), ("bb",), ("ac", "bd")):
            self.assertIs(shows_judged(never, ("never", who)), True)
        for who in (("ab",), ("ba",), ("bd", "ac"), ("ac", "bc"), ("ad", "bc"), ["aa"], "aa", ("aa", "bb"), ("aa", "aa"), ()):
            self.assertIs(shows_judged(never, ("never", who)), False)

    def test_lists_by_which_the_pairing_is_left(self):
        book = Book("ones a b\nothers x y\na rather x nobody")
        pairing = Pairing(book, (("a", "x"), ("b", "y")))
        told = judged(pairing)
        self.assertIs(shows_judged(pairing, ("open", told[2], told[1], told[3])), False)
        self.assertIs(shows_judged(pairing, ("open", told[2], told[2], told[3])), False)
        self.assertIs(shows_judged(pairing, ("open", told[1], told[1], told[3])), False)
        wrong = (("", "x", "y"),) + told[2][1:]
        self.assertIs(shows_judged(pairing, ("open", told[1], wrong, told[3])), False)
        self.assertIs(shows_judged(pairing, ("open", told[1], wrong, ("a",))), False)

    def test_one_part_otherwise(self):
        book = Book(TEXT)
        words = set()
        for pairs in pairings(book.ones, book.others):
            pairing = Pairing(book, pairs)
            told = judged(pairing)
            words.add(told[0])
            for value in bent(told):
                self.assertIs(shows_judged(pairing, value), False, value)
            for value in (told + ((),), told[:-1], told[1:], told[::-1], told + told, told[0], list(told), (told,)):
                self.assertIs(shows_judged(pairing, value), value == told, value)
        self.assertEqual(words, {"open", "never"})
        pairing = Pairing(Book(TEXT).said("bea", ("dan", "cy")), (("ann", "cy"), ("bea", "dan")))
        for value in bent(("sure",)):
            self.assertIs(shows_judged(pairing, value), False)
        self.assertIs(shows_judged(pairing, ("sure",)), True)

    def test_any_values(self):
        book = Book(TEXT)
        for pairs in pairings(book.ones, book.others):
            pairing = Pairing(book, pairs)
            told = judged(pairing)
            for value in any_values() + [(), "", "sure", "open", ("open",), ("never",), ["sure"], ("sure", ()), ("Sure",),
                                         (pairing,), pairing, {"sure": 1}, ("sure", "sure"), ("nobody",)]:
                self.assertIs(shows_judged(pairing, value), False, value)
                for at in range(len(told)):
                    other = told[:at] + (value,) + told[at + 1:]
                    self.assertIs(shows_judged(pairing, other), kinds(other) == kinds(told), (told, at, value))
                for many in range(1, 4):
                    for word in ("sure", "open", "never"):
                        right = word == "never" and many == 1 and value in refusing(sure(book), book, pairs)
                        self.assertIs(shows_judged(pairing, (word,) + (value,) * many), right)

    def test_values_stay_as_they_are(self):
        pairing = Pairing(Book(TEXT), ())
        value = ["open", [["cy"]], {"a": ()}]
        self.assertIs(shows_judged(pairing, value), False)
        self.assertIs(shows_judged(pairing, ("open", value, value, value)), False)
        self.assertEqual(value, ["open", [["cy"]], {"a": ()}])

    def test_nothing_is_raised(self):
        pairing = Pairing(Book(TEXT), ())
        try:
            for value in bent(judged(pairing)) + any_values():
                shows_judged(pairing, value)
        except PairError as error:
            self.fail(error)


if __name__ == "__main__":
    unittest.main()
