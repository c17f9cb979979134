"""Points 2, 3 and 9: who has to speak, which sayings can go, and which single word brings a sure pairing."""

import random
import unittest
from itertools import combinations

from factpairs import speaking as module
from factpairs.books import Book
from factpairs.errors import NoPerson, NotSure
from factpairs.judging import judged
from factpairs.pairings import Pairing
from factpairs.speaking import bringing, doubts, shows_speakers, spare, speakers
from factpairs.striking import steadied
from tests.helpers import (PairCase, TEXT, TWELVE_ONES, TWELVE_OTHERS, any_values, bent, chance_book, choices_of, is_sure, kinds,
                           large, pairings, partner, refusing, rings, side_by_side, sure, sure_pairings, telling_book, text_of,
                           turned_about, with_chance)


def expected_doubts(known, book, pairs):
    """The doubts of a pairing, as the document tells them."""
    held = {person: partner(pairs, person) for person in book.ones + book.others}
    alone = [(person,) for person in held if held[person] and (person, held[person], "") not in known]
    both = [(one, other) for one in book.ones for other in book.others if held[one] != other
            and (one, held[one], other) not in known and (other, held[other], one) not in known]
    return tuple(alone + both)


def settlers(known, pairs, doubt):
    """The persons who can settle a doubt."""
    if len(doubt) == 1:
        return [person for person in doubt if (person, "", partner(pairs, person)) not in known]
    return [person for person, other in (doubt, doubt[::-1]) if (person, other, partner(pairs, person)) not in known]


def all_lots(things):
    """All lots of these things, in their sequence, the small ones first."""
    return [lot for many in range(len(things) + 1) for lot in combinations(things, many)]


def fewest_lots(known, book, pairs):
    """All lots of persons, as few as can be, who settle all doubts; None if nobody can settle one."""
    told = expected_doubts(known, book, pairs)
    can = {doubt: settlers(known, pairs, doubt) for doubt in told}
    if not all(can.values()):
        return None
    found = []
    for lot in all_lots(book.ones + book.others):
        if found and len(lot) > len(found[0]):
            return found
        if all(any(person in lot for person in can[doubt]) for doubt in told):
            found.append(lot)
    return found


def apart_lots(known, book, pairs, many):
    """All lots of so many doubts no two of which one person can settle."""
    told = expected_doubts(known, book, pairs)
    can = {doubt: settlers(known, pairs, doubt) for doubt in told}
    return [lot for lot in combinations(told, many)
            if not any(set(can[one]) & set(can[other]) for one, other in combinations(lot, 2))]


def with_words(book, pairs, persons):
    """The Book behind the words of these persons, each of whom speaks of whom they have."""
    for person in persons:
        known, held = sure(book), partner(pairs, person)
        for choice in choices_of(book, person):
            if choice != held and (person, choice, held) not in known and (person, held, choice) not in known:
                book = book.said(person, (held, choice))
    return book


def wanting(many):
    """The Book of so many ones and others who said but that they would rather have their partner than nobody, and the pairs."""
    pairs = tuple(zip(TWELVE_ONES[:many], TWELVE_OTHERS[:many]))
    sayings = [(person, (other, "")) for pair in pairs for person, other in (pair, pair[::-1])]
    return Book(text_of(TWELVE_ONES[:many], TWELVE_OTHERS[:many], sayings)), pairs


def chance_case(seed, most=4):
    """A Book of up to so many people on a side, and one of its pairings, by a seed."""
    book = chance_book(seed, most, 3 + seed % 12) if seed % 3 else telling_book(seed, most)
    if seed % 3 == 0:
        for number in range(seed % 5):
            book = book.unsaid(number % len(book)) if len(book) else book
    found = pairings(book.ones, book.others)
    good = [pairs for pairs in found if not refusing(sure(book), book, pairs)]
    found = good if good and seed % 4 else found
    return book, found[seed * 7919 % len(found)]


class DoubtsTest(PairCase):

    def test_what_the_interface_lists(self):
        for name in ("doubts", "speakers", "shows_speakers", "spare", "bringing"):
            self.assertEqual(getattr(module, name).__module__, "factpairs.speaking")

    def test_against_an_own_closure(self):
        many = []
        for seed in range(300):
            book = chance_book(seed, 4, seed % 12) if seed % 3 else telling_book(seed, 4)
            known = sure(book)
            found = pairings(book.ones, book.others)
            for pairs in found[::max(1, len(found) // 9)]:
                told = doubts(Pairing(book, pairs))
                many.append(len(told))
                self.assertEqual(kinds(told), kinds(expected_doubts(known, book, pairs)))
                self.assertEqual(told == (), judged(Pairing(book, pairs)) == ("sure",))
        self.assertGreater(many.count(0), 20)
        self.assertGreater(sum(number > 5 for number in many), 100)

    def test_sequence_goes_by_the_persons(self):
        book = Book("ones b a\nothers y x")
        pairing = Pairing(book, (("a", "y"), ("b", "x")))
        self.assertEqual(doubts(pairing), (("b",), ("a",), ("y",), ("x",), ("b", "y"), ("a", "x")))
        self.assertEqual(doubts(Pairing(book, ())), (("b", "y"), ("b", "x"), ("a", "y"), ("a", "x")))

    def test_those_who_surely_leave_are_doubts_too(self):
        book = Book("ones a\nothers x\na rather nobody x")
        self.assertEqual(doubts(Pairing(book, (("a", "x"),))), (("a",), ("x",)))
        self.assertEqual(doubts(Pairing(book, ())), ())

    def test_large_books(self):
        pairs = tuple(zip(TWELVE_ONES, TWELVE_OTHERS))
        self.assertEqual(len(doubts(Pairing(large(), pairs))), 24 + 132)
        self.assertEqual(len(doubts(Pairing(large(), ()))), 144)
        book, pairs = wanting(12)
        self.assertEqual(doubts(Pairing(book, pairs)),
                         tuple((one, other) for one in book.ones for other in book.others if (one, other) not in pairs))

    def test_sides_exchanged(self):
        for seed in range(60):
            book, pairs = chance_case(seed)
            told = doubts(Pairing(book, pairs))
            back = doubts(Pairing(~book, turned_about(pairs)))
            self.assertEqual(sorted(back), sorted(doubt[::-1] for doubt in told))
            words = speakers(Pairing(book, pairs)), speakers(Pairing(~book, turned_about(pairs)))
            self.assertEqual([words[0][0], len(words[0][1])], [words[1][0], len(words[1][1])])


class SpeakersTest(PairCase):

    def check(self, book, known, pairs):
        """What speakers tells of a pairing, against all lots of persons; returns how many persons, or None."""
        pairing = Pairing(book, pairs)
        told = speakers(pairing)
        self.assertIs(told.__class__, tuple)
        self.assertIs(shows_speakers(pairing, told), True)
        lots = fewest_lots(known, book, pairs)
        if lots is None:
            self.assertEqual([len(told), told[0]], [2, "never"])
            self.assertIn(kinds(told[1]), kinds(refusing(known, book, pairs))[1])
            return None
        self.assertEqual(refusing(known, book, pairs), [])
        self.assertEqual([len(told), told[0]], [3, "speakers"])
        self.assertIn(kinds(told[1]), kinds(lots)[1])
        self.assertIn(kinds(told[2]), kinds(apart_lots(known, book, pairs, len(told[1])))[1])
        return len(told[1])

    def test_against_all_lots_of_people(self):
        numbers = []
        for seed in range(500):
            book, pairs = chance_case(seed)
            numbers.append(self.check(book, sure(book), pairs))
        for number in (None, 0, 1, 2, 3, 4):
            self.assertGreater(numbers.count(number), 10, number)

    def test_all_pairings_of_few_people(self):
        for seed in range(60):
            book = chance_book(seed, 2, 6)
            for pairs in pairings(book.ones, book.others):
                self.check(book, sure(book), pairs)

    def test_doubts_of_any_shape(self):
        # Nobody is paired, and a doubt is left of each two of whom neither would rather be alone.
        numbers = set()
        for seed in range(150):
            chance = random.Random(seed)
            ones, others = TWELVE_ONES[:chance.randint(3, 5)], TWELVE_OTHERS[:chance.randint(2, 5)]
            sayings = []
            for one in ones:
                unwanted = tuple(other for other in others if chance.random() < 0.55)
                sayings.extend([(one, ("", *unwanted))] if unwanted else [])
            book = Book(text_of(ones, others, sayings))
            numbers.add(self.check(book, sure(book), ()))
        self.assertLessEqual({1, 2, 3, 4}, numbers)

    def test_a_long_way_of_doubts(self):
        # Each of the ones but the first has a doubt with the other of the same place, and with the one ahead of it.
        for many in range(2, 13):
            for turned in (False, True):
                ones, others = TWELVE_ONES[:many], TWELVE_OTHERS[:many - 1]
                sayings = []
                for at, one in enumerate(ones):
                    far = tuple(other for place, other in enumerate(others) if place not in (at, at - 1))
                    sayings.extend([(one, ("", *far))] if far else [])
                ones = ones[::-1] if turned else ones
                book = Book(text_of(ones, others, sayings))
                for told_of in (book, ~book):
                    pairing = Pairing(told_of, ())
                    told = speakers(pairing)
                    self.assertEqual(len(doubts(pairing)), 2 * many - 2)
                    self.assertEqual([set(told[1]), len(told[2])], [set(others), many - 1])
                    self.assertIs(shows_speakers(pairing, told), True)

    def test_only_one_can_settle(self):
        # a and b alone can settle a doubt of their own; x is in four doubts, all settled by those two.
        book = Book("ones a b c\nothers x y\nx rather a b c nobody\ny rather c b a nobody\nc rather x nobody y")
        pairs = (("a", "x"), ("b", "y"))
        self.assertEqual(speakers(Pairing(book, pairs))[0], "speakers")
        self.check(book, sure(book), pairs)
        book = Book("ones a\nothers x\na rather x nobody")
        self.assertEqual(speakers(Pairing(book, (("a", "x"),))), ("speakers", ("x",), (("x",),)))
        self.assertEqual(speakers(Pairing(book, ())), ("speakers", ("x",), (("a", "x"),)))

    def test_those_who_spoke_make_sure(self):
        for seed in range(300):
            book, pairs = chance_case(seed)
            told = speakers(Pairing(book, pairs))
            if told[0] == "speakers":
                self.assertEqual(judged(Pairing(with_words(book, pairs, told[1]), pairs)), ("sure",))
                for without in told[1]:
                    rest = [person for person in told[1] if person != without]
                    self.assertNotEqual(judged(Pairing(with_words(book, pairs, rest), pairs)), ("sure",))

    def test_one_to_twelve_pairs(self):
        for many in range(1, 13):
            book, pairs = wanting(many)
            pairing = Pairing(book, pairs)
            told = speakers(pairing)
            self.assertEqual([told[0], len(told[1]), len(told[2])], ["speakers"] + [many if many > 1 else 0] * 2)
            self.assertEqual(len({name for doubt in told[2] for name in doubt}), 2 * len(told[2]))
            self.assertTrue(set(told[2]) <= set(doubts(pairing)))
            self.assertEqual(told[2], tuple(doubt for doubt in doubts(pairing) if doubt in told[2]))
            self.assertEqual(told[1], tuple(person for person in book.persons if person in told[1]))
            self.assertTrue(all(one in told[1] or other in told[1] for one, other in doubts(pairing)))
            self.assertIs(shows_speakers(pairing, told), True)
            if many > 1:
                # Any whole side does, by one who would be left out it does not.
                for side in (book.ones, book.others):
                    self.assertIs(shows_speakers(pairing, ("speakers", side, told[2])), True)
                    self.assertIs(shows_speakers(pairing, ("speakers", side[:-1], told[2])), False)
                    self.assertIs(shows_speakers(pairing, ("speakers", side[:-1], told[2][:-1])), False)
                row = tuple((one, book.others[(at + 1) % many]) for at, one in enumerate(book.ones))
                self.assertIs(shows_speakers(pairing, ("speakers", book.others, row)), True)
                self.assertIs(shows_speakers(pairing, ("speakers", book.others, row[1:] + row[:1])), False)

    def test_twelve_people_of_whom_nothing_is_known(self):
        pairing = Pairing(large(), tuple(zip(TWELVE_ONES, TWELVE_OTHERS)))
        # Each has a doubt of their own.
        self.assertEqual(speakers(pairing), ("speakers", TWELVE_ONES + TWELVE_OTHERS,
                                             tuple((person,) for person in TWELVE_ONES + TWELVE_OTHERS)))
        self.assertEqual(len(speakers(Pairing(large(), ()))[1]), 12)

    def test_large_books_by_chance(self):
        lengths = set()
        for seed in range(40):
            book = large()
            for step in range(seed % 3 + 1):
                book = with_chance(book, seed * 10 + step, 4)
            pairing = Pairing(book, tuple(zip(TWELVE_ONES[:seed % 13], TWELVE_OTHERS[:seed % 13])))
            told = speakers(pairing)
            known = sure(book)
            self.assertIs(shows_speakers(pairing, told), True)
            if told[0] == "never":
                self.assertIn(told[1], refusing(known, book, pairing.pairs))
                continue
            can = {doubt: set(settlers(known, pairing.pairs, doubt)) for doubt in expected_doubts(known, book, pairing.pairs)}
            self.assertTrue(all(can[doubt] & set(told[1]) for doubt in can))
            self.assertEqual(len(told[1]), len(told[2]))
            self.assertFalse([1 for one, other in combinations(told[2], 2) if can[one] & can[other]])
            lengths.add(len(told[1]))
        self.assertGreater(len(lengths), 3)


class ShowsSpeakersTest(PairCase):

    def test_all_right_answers(self):
        several = 0
        for seed in range(200):
            book, pairs = chance_case(seed, 3)
            known, pairing = sure(book), Pairing(book, pairs)
            lots = fewest_lots(known, book, pairs)
            if lots is None:
                right = [("never", who) for who in refusing(known, book, pairs)]
            else:
                right = [("speakers", lot, apart) for lot in lots for apart in apart_lots(known, book, pairs, len(lots[0]))]
            several += len(right) > 1
            for value in right:
                self.assertIs(shows_speakers(pairing, value), True)
        self.assertGreater(several, 50)

    def test_answers_with_one_part_otherwise(self):
        for seed in range(90):
            book, pairs = chance_case(seed, 3)
            known, pairing = sure(book), Pairing(book, pairs)
            lots, told = fewest_lots(known, book, pairs), speakers(pairing)
            if lots is None:
                right = [kinds(("never", who)) for who in refusing(known, book, pairs)]
            else:
                right = [kinds(("speakers", lot, apart)) for lot in lots
                         for apart in apart_lots(known, book, pairs, len(lots[0]))]
            for value in bent(told):
                self.assertIs(shows_speakers(pairing, value), kinds(value) in right, (book.text, pairs, value))

    def test_more_fewer_and_turned_about(self):
        told_of = 0
        for seed in range(150):
            book, pairs = chance_case(seed)
            known, pairing = sure(book), Pairing(book, pairs)
            told = speakers(pairing)
            if told[0] == "never":
                for value in (("never",), ("never", told[1], told[1]), ("never", told[1][::-1] + (0,)), ("speakers", (), ()),
                              ("sure",), ("never", ())):
                    self.assertIs(shows_speakers(pairing, value), False)
                self.assertIs(shows_speakers(pairing, ("never", told[1][::-1])), len(told[1]) == 1)
                continue
            persons, apart = told[1:]
            everybody = book.ones + book.others
            wrong = [("speakers", persons), ("speakers", persons, apart, ()), ("speakers", list(persons), apart),
                     ("speakers", persons, list(apart)), ("speakers", apart, persons) if apart else ("speakers",),
                     ("speakers", everybody, apart) if len(persons) < len(everybody) else (),
                     ("never", apart[0]) if apart else ("never",), ("never", (everybody[0],)), ("sure",),
                     ("speakers", everybody, expected_doubts(known, book, pairs)) if len(persons) < len(everybody) else ()]
            if persons:
                wrong.extend([("speakers", persons + persons[:1], apart + apart[:1]), ("speakers", persons[1:], apart[1:]),
                              ("speakers", persons[1:], apart), ("speakers", persons, apart[1:]),
                              ("speakers", persons[:1] * len(persons), apart) if len(persons) > 1 else (),
                              ("speakers", persons, apart[:1] * len(apart)) if len(apart) > 1 else ()])
            if len(persons) > 1:
                told_of += 1
                wrong.extend([("speakers", persons[::-1], apart), ("speakers", persons, apart[::-1])])
            if apart and len(apart[-1]) == 2:
                wrong.append(("speakers", persons, apart[:-1] + (apart[-1][::-1],)))
            for value in wrong:
                self.assertIs(shows_speakers(pairing, value), False, (book.text, pairs, value))
        self.assertGreater(told_of, 20)

    def test_more_persons_and_doubts_than_are_needed_apart(self):
        # Both persons settle all, but one is enough: so as many doubts as persons would have one settler in common.
        book = Book("ones a b\nothers x\na rather nobody x\nb rather x nobody\nx rather b nobody a")
        pairing = Pairing(book, (("b", "x"),))
        self.assertEqual(speakers(pairing), ("speakers", (), ()))
        book = Book("ones a\nothers x y")
        pairing = Pairing(book, ())
        self.assertEqual(speakers(pairing)[1], ("a",))
        for value in (("speakers", ("x", "y"), (("a", "x"), ("a", "y"))), ("speakers", ("a",), (("a", "x"), ("a", "y"))),
                      ("speakers", ("x",), (("a", "x"),)), ("speakers", ("a", "x"), (("a", "x"), ("a", "y")))):
            self.assertIs(shows_speakers(pairing, value), False)
        for doubt in (("a", "x"), ("a", "y")):
            self.assertIs(shows_speakers(pairing, ("speakers", ("a",), (doubt,))), True)

    def test_values_of_any_kind(self):
        book, pairs = wanting(3)
        sure_one = Pairing(rings(1), (("ap", "ar"), ("aq", "as")))
        never = Pairing(Book("ones a\nothers x\na rather nobody x"), (("a", "x"),))
        for pairing in (Pairing(book, pairs), sure_one, never):
            told = speakers(pairing)
            for value in any_values():
                self.assertIs(shows_speakers(pairing, value), False)
                self.assertIs(shows_speakers(pairing, (told[0], value)), False)
                for at in range(len(told)):
                    if value != told[at] and value != ():
                        self.assertIs(shows_speakers(pairing, told[:at] + (value,) + told[at + 1:]), False)
                self.assertIs(shows_speakers(pairing, ("speakers", (value,), (value,))), False)
        self.assertIs(shows_speakers(sure_one, ("speakers", (), ())), True)
        for value in (("speakers", [], ()), ("speakers", (), []), ("speakers", "", ()), ("speakers", (), None), ("speakers", 0, 0)):
            self.assertIs(shows_speakers(sure_one, value), False)

    def test_by_position_and_by_name(self):
        book, pairs = wanting(2)
        pairing = Pairing(book, pairs)
        self.assertEqual(speakers(pairing=pairing), speakers(pairing))
        self.assertEqual(doubts(pairing=pairing), doubts(pairing))
        self.assertIs(shows_speakers(pairing=pairing, value=speakers(pairing)), True)
        self.assertIs(shows_speakers(value=(), pairing=pairing), False)
        self.assertEqual([speakers(pairing), doubts(pairing)], [speakers(pairing), doubts(pairing)])
        self.assertEqual([pairing.pairs, pairing.book.text], [pairs, book.text])


class SpareTest(PairCase):

    def check(self, book, pairs):
        """What spare tells of a surely steady pairing, against taking each saying out."""
        expected = []
        for number in range(len(book.sayings)):
            less = Book(text_of(book.ones, book.others, book.sayings[:number] + book.sayings[number + 1:]))
            if is_sure(sure(less), less, pairs):
                expected.append(number)
        self.assertEqual(kinds(spare(Pairing(book, pairs))), kinds(tuple(expected)))
        return expected

    def test_against_taking_them_out(self):
        some = 0
        for seed in range(250):
            book = telling_book(seed, 3 + seed % 2)
            for step in range(seed % 3):
                book = with_chance(book, seed + step, 6)
            for pairs in sure_pairings(book):
                found = self.check(book, pairs)
                some += 0 < len(found) < len(book)
        self.assertGreater(some, 60)

    def test_sayings_told_twice(self):
        for seed in range(60):
            book = telling_book(seed, 3)
            if not book.sayings:
                continue
            person, row = book.sayings[seed % len(book)]
            book = book.said(person, row).said(person, row[:2])
            for pairs in sure_pairings(book):
                self.assertIn(len(book) - 1, self.check(book, pairs))
                self.assertIn(len(book) - 2, self.check(book, pairs))
                self.assertIn(seed % (len(book) - 2), self.check(book, pairs))
        book = Book("ones a\nothers x\na rather x nobody\nx rather a nobody\na rather x nobody")
        self.assertEqual(spare(Pairing(book, (("a", "x"),))), (0, 2))

    def test_not_sure(self):
        for seed in range(60):
            book = chance_book(seed, 3, 8)
            known = sure(book)
            for pairs in pairings(book.ones, book.others)[:6]:
                pairing = Pairing(book, pairs)
                if is_sure(known, book, pairs):
                    self.check(book, pairs)
                else:
                    self.refused(NotSure, pairing, spare, pairing)
                    self.refused(NotSure, pairing, spare, pairing=pairing)

    def test_large_books(self):
        book = side_by_side((10, 10, 3), 1)
        for pairing in (steadied(book)[1], steadied(book, side="others")[1]):
            self.assertEqual(spare(pairing=pairing), spare(pairing))
            self.check(book, pairing.pairs)
        sayings = book.sayings + book.sayings + book.sayings[:12]
        full = Book(text_of(book.ones, book.others, sayings))
        self.assertEqual(len(full), 60)
        self.assertEqual(spare(steadied(full)[1]), tuple(range(60)))


class BringingTest(PairCase):

    def check(self, book, person):
        """What bringing tells of a person, against a look at all pairings behind each row."""
        choices, known = choices_of(book, person), sure(book)
        expected = []
        for x in choices:
            for y in choices:
                if x == y or (person, x, y) in known or (person, y, x) in known or len(book) == 60:
                    continue
                more = Book(text_of(book.ones, book.others, book.sayings + ((person, (x, y)),)))
                if sure_pairings(more):
                    expected.append((x, y))
        self.assertEqual(kinds(bringing(book, person)), kinds(tuple(expected)), (book.text, person))
        return expected

    def test_against_all_pairings(self):
        new, old = 0, 0
        for seed in range(250):
            book = telling_book(seed, 3) if seed % 3 else chance_book(seed, 3, 12)
            if seed % 2 and len(book):
                book = book.unsaid(seed % len(book))
                book = with_chance(book, seed, 3)
            for person in book.persons:
                found = self.check(book, person)
                if found and sure_pairings(book):
                    old += 1
                elif found:
                    new += 1
        self.assertGreater(new, 30)
        self.assertGreater(old, 30)

    def test_all_new_rows_if_there_is_one_already(self):
        book = Book("ones a\nothers x y z\na rather x nobody\nx rather a nobody\ny rather nobody a\nz rather nobody a")
        self.assertEqual(bringing(book, "a"), (("x", "y"), ("x", "z"), ("y", "x"), ("y", "z"), ("y", ""), ("z", "x"), ("z", "y"),
                                               ("z", ""), ("", "y"), ("", "z")))
        self.assertEqual(bringing(book, "x"), ())

    def test_what_is_told_or_goes_round_is_not_among_them(self):
        for seed in range(80):
            book = with_chance(telling_book(seed, 4), seed, 3)
            for person in book.persons:
                for x, y in bringing(book, person):
                    self.assertFalse((person, x, y) in book or (person, y, x) in book)
                    more = book.said(person, (x, y))
                    self.assertEqual(steadied(more)[0], "pairing")

    def test_with_sixty_sayings(self):
        book = Book("ones a\nothers x y z\na rather x nobody\nx rather a nobody\ny rather nobody a\nz rather nobody a")
        found = bringing(book, "a")
        self.assertEqual(len(found), 10)
        while len(book) < 60:
            self.assertEqual(bringing(book, "a"), found)
            book = book.said("a", ("x", ""))
        for person in book.persons:
            self.assertEqual(bringing(book, person), ())
        self.refused(NoPerson, "b", bringing, book, "b")

    def test_large_books(self):
        book = side_by_side((10, 3, 2), 3)
        person, row = book.sayings[0]
        less = book.unsaid(0)
        self.assertEqual(steadied(less)[0], "none")
        found = bringing(less, person)
        self.assertEqual(found, tuple((x, y) for x in less[person] for y in less[person] if x != y and
                                      steadied(less.said(person, (x, y)))[0] == "pairing"))
        self.assertEqual(bringing(large(), "aa"), ())
        full = bringing(book.said(person, row), person)
        self.assertEqual(full, tuple((x, y) for x in book[person] for y in book[person] if x != y
                                     and (person, x, y) not in book and (person, y, x) not in book))

    def test_no_person(self):
        for value in any_values():
            self.refused(NoPerson, value, bringing, Book(TEXT), value)
            self.refused(NoPerson, value, bringing, book=Book(TEXT), person=value)
        for value in ("", "nobody", "eve", ["ann"], ("ann",)):
            self.refused(NoPerson, value, bringing, Book(TEXT), value)

    def test_by_position_and_by_name(self):
        book = Book(TEXT)
        for person in book.persons:
            self.assertEqual(bringing(book=book, person=person), bringing(book, person))
            self.assertEqual(bringing(book, person=person), bringing(book, person))
        self.assertEqual(book, Book(TEXT))


if __name__ == "__main__":
    unittest.main()
