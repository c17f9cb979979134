"""Points 2, 3 and 7: strikes, and the surely steady pairings to which they lead."""

import random
import unittest

from factpairs import striking as module
from factpairs.books import Book
from factpairs.errors import BadBarred, BadBound, BadSide, PairError
from factpairs.pairings import Pairing
from factpairs.striking import shows_steadied, steadied, unstruck
from tests.helpers import (PairCase, TEXT, TWELVE_ONES, TWELVE_OTHERS, any_values, bent, chance_book, choices_of, is_sure,
                           kinds, large, partner, rings, sure, sure_pairings, telling_book, text_of, turned_about,
                           with_chance)


class Walk:
    """Strikes of a book, one by one, as the document tells them: by sets of triples and pairs alone."""

    def __init__(self, book, bound=(), barred=()):
        self.known = sure(book)
        self.sides = (book.ones, book.others)
        self.persons = book.ones + book.others
        self.choices = {person: choices_of(book, person) for person in self.persons}
        self.struck = set()
        for one in book.ones:
            for other in book.others:
                wanted = (one, other, "") in self.known and (other, one, "") in self.known
                if not wanted or (one, other) in barred:
                    self.strike(one, other)
        for pair in bound:
            for person, with_whom in (pair, pair[::-1]):
                for choice in self.choices[person]:
                    if choice != with_whom:
                        self.strike(person, choice)

    def strike(self, person, choice):
        self.struck.add((person, choice))
        if choice:
            self.struck.add((choice, person))

    def left(self, person):
        return tuple(choice for choice in self.choices[person] if (person, choice) not in self.struck)

    def is_right(self, person, choice, by):
        if by not in self.choices[person][:-1] or by == choice or choice not in self.left(person):
            return False
        return (person, choice, by) not in self.known and not any((by, z, person) in self.known for z in self.left(by))

    def right(self):
        """All strikes that are right now."""
        return [(person, choice, by) for person in self.persons for choice in self.left(person)
                for by in self.choices[person][:-1] if self.is_right(person, choice, by)]

    def goes(self, strikes):
        """Whether these strikes are right, one behind the other; they are struck as far as they are."""
        for person, choice, by in strikes:
            if not self.is_right(person, choice, by):
                return False
            self.strike(person, choice)
        return True

    def is_bare(self):
        return any(self.left(person) == () for person in self.persons)

    def all_left(self):
        return tuple(self.left(person) for person in self.persons)

    def to_end(self, seed):
        """Strikes by chance until none is left."""
        chance, strikes = random.Random(seed), []
        while found := self.right():
            strikes.append(chance.choice(found))
            self.goes(strikes[-1:])
        return tuple(strikes)


def chance_ties(book, seed):
    """(bound, barred) by a seed: often none, sometimes such as cannot be together."""
    chance = random.Random(seed)
    both = [(one, other) for one in book.ones for other in book.others]
    barred = tuple(sorted(chance.sample(both, min(len(both), chance.choice([0, 0, 1, 1, 2, 3])))))
    bound = []
    for one, other in chance.sample(both, min(len(both), chance.choice([0, 0, 0, 1, 1, 2]))):
        if not any(one in pair or other in pair for pair in bound):
            bound.append((one, other))
    return tuple(sorted(bound)), barred


def books(many):
    """Books of few people, with bound and barred pairs: (book, bound, barred)."""
    for seed in range(many):
        book = chance_book(seed, 3, seed % 15) if seed % 4 == 0 else telling_book(seed, 3)
        yield (book,) + (((), ()) if seed % 3 == 0 else chance_ties(book, seed))


def wanted(book, bound, barred):
    """All surely steady pairings with all bound pairs and no barred one."""
    return [pairs for pairs in sure_pairings(book) if set(bound) <= set(pairs) and not set(barred) & set(pairs)]


def best_of(book, found, side):
    """The one of these pairings in which each person of the side surely has the best partner of all in them."""
    known = sure(book)
    best = [pairs for pairs in found if all(partner(pairs, person) == partner(other, person)
                                            or (person, partner(pairs, person), partner(other, person)) in known
                                            for person in side for other in found)]
    return best[0] if len(best) == 1 else best


class StrikingCase(PairCase):

    def check(self, book, bound, barred, side, found):
        """What steadied tells, found being all surely steady pairings that it may tell."""
        told = steadied(book, bound=bound, barred=barred, side=side)
        self.assertEqual([told.__class__, len(told)], [tuple, 2])
        self.assertIs(shows_steadied(book, told, bound=bound, barred=barred, side=side), True)
        if found:
            self.assertEqual(told[0], "pairing")
            self.assertIs(told[1].__class__, Pairing)
            self.assertIs(told[1].book, book)
            self.assertEqual(kinds(told[1].pairs), kinds(best_of(book, found, getattr(book, side))))
        else:
            self.check_none(book, bound, barred, told)
        return told

    def check_none(self, book, bound, barred, told):
        """The strikes that are told are right, and leave somebody without any choice."""
        self.assertEqual(told[0], "none")
        self.assertEqual(kinds(told[1]), kinds(tuple(tuple(strike) for strike in told[1])))
        walk = Walk(book, bound, barred)
        self.assertTrue(walk.goes(told[1][:-1]))
        # No step is told behind the one that leaves somebody without any choice.
        self.assertIs(walk.is_bare(), told[1] == ())
        self.assertTrue(walk.goes(told[1][-1:]))
        self.assertTrue(walk.is_bare())


class UnstruckTest(StrikingCase):

    def test_what_the_interface_lists(self):
        for name in ("unstruck", "steadied", "shows_steadied"):
            self.assertEqual(getattr(module, name).__module__, "factpairs.striking")

    def test_against_strikes_in_several_sequences(self):
        for number, (book, bound, barred) in enumerate(books(90)):
            told = unstruck(book, bound=bound, barred=barred)
            for seed in range(3):
                walk = Walk(book, bound, barred)
                walk.to_end(3 * number + seed)
                self.assertEqual(kinds(told), kinds(walk.all_left()), (book.text, bound, barred))

    def test_what_is_struck_at_first(self):
        book = Book("ones a\nothers x")
        self.assertEqual(kinds(unstruck(book)), kinds(((), ())))
        # Without a word of theirs both may want one another, so neither can surely stay alone.
        self.assertEqual(unstruck(book.said("a", ("", "x"))), (("",), ("",)))
        self.assertEqual(unstruck(book.said("x", ("", "a"))), (("",), ("",)))
        both = book.said("a", ("x", "")).said("x", ("a", ""))
        self.assertEqual(unstruck(both), (("x",), ("a",)))
        self.assertEqual(unstruck(both, barred=(("a", "x"),)), ((), ()))
        self.assertEqual(unstruck(both, bound=(("a", "x"),)), (("x",), ("a",)))
        self.assertEqual(unstruck(both, bound=(("a", "x"),), barred=(("a", "x"),)), ((), ()))
        self.assertEqual(unstruck(book, bound=(("a", "x"),)), ((), ()))
        self.assertEqual(unstruck(book.said("a", ("", "x")), bound=(("a", "x"),)), ((), ()))

    def test_whoever_is_bound_is_no_choice_of_others(self):
        book = rings(1)
        self.assertEqual(unstruck(book), (("ar", "as"), ("ar", "as"), ("ap", "aq"), ("ap", "aq")))
        self.assertEqual(unstruck(book, bound=(("ap", "as"),)), (("as",), ("ar",), ("aq",), ("ap",)))
        self.assertEqual(unstruck(book, barred=(("ap", "as"),)), (("ar",), ("as",), ("ap",), ("aq",)))
        self.assertEqual(unstruck(book, barred=(("ap", "ar"), ("aq", "ar"))), left_in_the_end(book, (("ap", "ar"), ("aq", "ar"))))

    def test_what_is_in_a_surely_steady_pairing_is_never_struck(self):
        for book, bound, barred in books(90):
            left = dict(zip(book.persons, unstruck(book, bound=bound, barred=barred)))
            for pairs in wanted(book, bound, barred):
                for person in book.persons:
                    self.assertIn(partner(pairs, person), left[person])

    def test_the_sides_exchanged(self):
        for book, bound, barred in books(60):
            told = unstruck(book, bound=bound, barred=barred)
            turned = unstruck(~book, bound=turned_about(bound), barred=turned_about(barred))
            self.assertEqual(turned, told[len(book.ones):] + told[:len(book.ones)])

    def test_twelve_on_a_side(self):
        book = rings(6)
        told = dict(zip(book.persons, unstruck(book)))
        for letter in "abcdef":
            for name in "pq":
                self.assertEqual(told[letter + name], (letter + "r", letter + "s"))
            for name in "rs":
                self.assertEqual(told[letter + name], (letter + "p", letter + "q"))
        self.assertEqual(unstruck(large()), ((),) * 24)
        apart = [(person, ("", choice)) for person, side in ((TWELVE_ONES[0], TWELVE_OTHERS), (TWELVE_OTHERS[0], TWELVE_ONES))
                 for choice in side]
        self.assertEqual(unstruck(large(apart))[0], ("",))

    def test_twelve_by_chance(self):
        for seed in range(3):
            book = with_chance(large(telling_of_twelve(seed)), seed, 20)
            for bound, barred in (((), ()), chance_ties(book, seed)):
                walk = Walk(book, bound, barred)
                walk.to_end(seed)
                self.assertEqual(unstruck(book, bound=bound, barred=barred), walk.all_left())


def left_in_the_end(book, barred):
    """What no strike takes away any more, with these pairs barred."""
    walk = Walk(book, (), barred)
    walk.to_end(0)
    return walk.all_left()


def telling_of_twelve(seed):
    """Sayings of twelve and twelve people who tell whom they like, all ahead of nobody."""
    chance, sayings = random.Random(seed), []
    for person in TWELVE_ONES + TWELVE_OTHERS:
        row = list(TWELVE_OTHERS if person in TWELVE_ONES else TWELVE_ONES)
        chance.shuffle(row)
        sayings.append((person, tuple(row) + ("",)))
    return sayings


class SteadiedTest(StrikingCase):

    def test_against_a_going_through_of_all(self):
        told = []
        for book, bound, barred in books(240):
            found = wanted(book, bound, barred)
            for side in ("ones", "others"):
                told.append(self.check(book, bound, barred, side, found)[0])
        self.assertGreater(told.count("pairing"), 100)
        self.assertGreater(told.count("none"), 100)

    def test_both_sides_differ(self):
        differ = 0
        for seed in range(120):
            book = telling_book(seed, 4)
            answers = [steadied(book, side=side) for side in ("ones", "others")]
            if answers[0][0] == "pairing":
                differ += answers[0] != answers[1]
                self.assertTrue(answers[1][1] <= answers[0][1])
        self.assertGreater(differ, 10)

    def test_the_ones_are_the_side_if_none_is_told(self):
        book = rings(1)
        best = Pairing(book, (("ap", "ar"), ("aq", "as")))
        self.assertEqual([steadied(book), steadied(book, side="ones")], [("pairing", best)] * 2)
        self.assertEqual(steadied(book, side="others"), ("pairing", Pairing(book, (("ap", "as"), ("aq", "ar")))))

    def test_bound_and_barred(self):
        book = rings(2)
        for bound, barred, ones, others in (
                ((), (("ap", "ar"),), "as br", "as bs"), ((("ap", "ar"),), (), "ar br", "ar bs"),
                ((("ap", "as"),), (("bq", "br"),), "as br", "as br"), ((("ap", "ar"), ("bq", "br")), (), "ar bs", "ar bs"),
                ((), (("ap", "br"), ("ap", "bs")), "ar br", "as bs")):
            for side, words in (("ones", ones), ("others", others)):
                told = steadied(book, bound=bound, barred=barred, side=side)
                self.assertEqual([told[1]["ap"], told[1]["bp"]], words.split())
        for bound, barred in (((("ap", "br"),), ()), ((("ap", "ar"), ("aq", "bs")), ()), ((), (("ap", "ar"), ("ap", "as"))),
                              ((("ap", "ar"),), (("ap", "ar"),)), ((("ap", "ar"),), (("aq", "as"),))):
            self.check_none(book, bound, barred, steadied(book, bound=bound, barred=barred))

    def test_somebody_without_any_choice_from_the_beginning(self):
        book = rings(1)
        both = (("ap", "ar"),)
        self.assertIs(shows_steadied(book, ("none", ()), bound=both, barred=both), True)
        self.check_none(book, both, both, steadied(book, bound=both, barred=both))
        self.assertIs(shows_steadied(book, ("none", ())), False)
        self.assertIs(shows_steadied(Book("ones a\nothers x"), ("none", ())), False)
        self.assertIs(shows_steadied(Book("ones a\nothers x"), ("none", ()), bound=(("a", "x"),)), True)

    def test_the_sides_exchanged(self):
        for book, bound, barred in books(90):
            for side, across in (("ones", "others"), ("others", "ones")):
                told = steadied(book, bound=bound, barred=barred, side=side)
                turned = ~book
                other = steadied(turned, bound=turned_about(bound), barred=turned_about(barred), side=across)
                self.assertEqual(other[0], told[0])
                if told[0] == "pairing":
                    self.assertEqual(other[1].pairs, turned_about(told[1].pairs))
                # Strikes name persons alone, so they are right from either side.
                more = {"bound": turned_about(bound), "barred": turned_about(barred), "side": across}
                self.assertIs(shows_steadied(turned, told, **more), told[0] == "none")

    def test_more_said(self):
        kept = 0
        for seed in range(100):
            book = telling_book(seed, 3)
            more = with_chance(book, seed, 6)
            told = steadied(book)
            if told[0] == "pairing":
                kept += 1
                self.assertEqual(steadied(more)[0], "pairing")
                best = steadied(more)[1]
                self.assertTrue(told[1].on(more) <= best)
        self.assertGreater(kept, 50)

    def test_what_both_books_tell(self):
        for seed in range(80):
            base = telling_book(seed, 3)
            one, other = with_chance(base, seed + 1, 4), with_chance(base, seed + 2, 4)
            told = steadied(one & other)
            if told[0] == "pairing":
                for book in (one, other):
                    self.assertTrue(is_sure(sure(book), book, told[1].pairs))

    def test_twelve_against_what_lists_tell(self):
        for seed in range(6):
            sayings = telling_of_twelve(seed)
            book = large(sayings)
            for side in ("ones", "others"):
                told = steadied(book, side=side)
                self.assertEqual(told[1].pairs, proposed(dict(sayings), side))
                self.assertTrue(is_sure(sure(book), book, told[1].pairs))

    def test_twelve_rings(self):
        book = rings(6)
        best = tuple(sorted((letter + one, letter + other) for letter in "abcdef" for one, other in (("p", "r"), ("q", "s"))))
        worst = tuple(sorted((letter + one, letter + other) for letter in "abcdef" for one, other in (("p", "s"), ("q", "r"))))
        self.assertEqual([steadied(book)[1].pairs, steadied(book, side="others")[1].pairs], [best, worst])
        mixed = best[:2] + worst[2:]
        for side in ("ones", "others"):
            told = steadied(book, bound=best[:1], barred=best[2::2], side=side)
            self.assertEqual(told[1].pairs, mixed)

    def test_long_rows_of_strikes(self):
        # All like the same ones best, so that each pair waits for those ahead of it.
        sayings = [(one, TWELVE_OTHERS + ("",)) for one in TWELVE_ONES] + [(other, TWELVE_ONES + ("",)) for other in TWELVE_OTHERS]
        book = large(sayings)
        together = tuple(zip(TWELVE_ONES, TWELVE_OTHERS))
        for side in ("ones", "others"):
            self.assertEqual(steadied(book, side=side)[1].pairs, together)
        self.assertEqual(unstruck(book), tuple((partner(together, person),) for person in book.persons))
        # The last one of the ones does not tell whether to stay with the last one of the others.
        less = large([(person, row) for person, row in sayings if person != "al"] + [("al", TWELVE_OTHERS[:11] + ("",))])
        told = steadied(less)
        self.check_none(less, (), (), told)
        self.assertGreater(len(told[1]), 20)
        self.assertIs(shows_steadied(less, ("none", told[1][:-1])), False)
        for seed in range(3):
            walk = Walk(less)
            strikes = walk.to_end(seed)
            self.assertIs(shows_steadied(less, ("none", strikes)), True)
            self.assertIs(shows_steadied(book, ("none", strikes)), False)
        self.check_none(book, (), together[-1:], steadied(book, barred=together[-1:]))
        self.check_none(book, (("aa", "bb"),), (), steadied(book, bound=(("aa", "bb"),)))

    def test_equal_calls_tell_the_same_and_change_nothing(self):
        for book, bound, barred in books(20):
            text = book.text
            told = [steadied(book, bound=bound, barred=barred), steadied(Book(text), bound=bound, barred=barred),
                    steadied(book, bound=bound, barred=barred)]
            self.assertEqual([kinds(answer) for answer in told], [kinds(told[0])] * 3)
            self.assertEqual(kinds(unstruck(book, bound=bound)), kinds(unstruck(Book(text), bound=bound)))
            self.assertEqual(book.text, text)


def proposed(lists, side):
    """The pairs that come of proposals of one side, everybody's list being known."""
    asking = TWELVE_ONES if side == "ones" else TWELVE_OTHERS
    held, free, tried = {}, list(asking), dict.fromkeys(asking, 0)
    while free:
        person = free.pop()
        choice = lists[person][tried[person]]
        tried[person] += 1
        if choice in held and lists[choice].index(held[choice]) < lists[choice].index(person):
            free.append(person)
        else:
            free.extend([held[choice]] if choice in held else [])
            held[choice] = person
    pairs = tuple(sorted((person, choice) for choice, person in held.items()))
    return pairs if side == "ones" else turned_about(pairs)


class ShowsSteadiedTest(StrikingCase):

    def test_other_right_strikes(self):
        shown = 0
        for number, (book, bound, barred) in enumerate(books(90)):
            if wanted(book, bound, barred):
                continue
            for seed in range(4):
                walk, strikes = Walk(book, bound, barred), Walk(book, bound, barred).to_end(seed + number)
                for many in range(len(strikes) + 1):
                    told = shows_steadied(book, ("none", strikes[:many]), bound=bound, barred=barred, side="others")
                    self.assertIs(told, walk.is_bare())
                    shown += told
                    walk.goes(strikes[many:many + 1])
        self.assertGreater(shown, 100)

    def test_strikes_where_there_is_a_pairing(self):
        for number, (book, bound, barred) in enumerate(books(60)):
            if wanted(book, bound, barred):
                strikes = Walk(book, bound, barred).to_end(number)
                for value in (strikes, strikes[:1], ()):
                    self.assertIs(shows_steadied(book, ("none", value), bound=bound, barred=barred), False)

    def test_strikes_with_one_word_otherwise(self):
        right = 0
        for book, bound, barred in books(50):
            told = steadied(book, bound=bound, barred=barred)
            if told[0] == "none":
                for at, strike in enumerate(told[1]):
                    for spot in range(3):
                        for word in book.persons + ("",):
                            other = strike[:spot] + (word,) + strike[spot + 1:]
                            strikes = told[1][:at] + (other,) + told[1][at + 1:]
                            walk = Walk(book, bound, barred)
                            known = all(part[0] in book.persons for part in strikes)
                            wanted_answer = known and walk.goes(strikes) and walk.is_bare()
                            shown = shows_steadied(book, ("none", strikes), bound=bound, barred=barred)
                            self.assertIs(shown, wanted_answer)
                            right += shown and strikes != told[1]
        self.assertGreater(right, 10)

    def test_strikes_left_out_twice_and_in_another_sequence(self):
        for book, bound, barred in books(50):
            told = steadied(book, bound=bound, barred=barred)
            if told[0] == "none":
                for at in range(len(told[1])):
                    for strikes in (told[1][:at] + told[1][at + 1:], told[1][:at + 1] + told[1][at:], told[1][at:] + told[1][:at],
                                    told[1][:at] + told[1][at:][::-1]):
                        walk = Walk(book, bound, barred)
                        shown = shows_steadied(book, ("none", strikes), bound=bound, barred=barred)
                        self.assertIs(shown, walk.goes(strikes) and walk.is_bare())

    def test_bent_strikes(self):
        book = Book(TEXT)
        strikes = (("cy", "ann", "bea"), ("cy", "bea", "ann"), ("cy", "", "ann"))
        self.assertIs(shows_steadied(book, ("none", strikes)), True)
        for value in bent(("none", strikes)):
            self.assertIs(shows_steadied(book, value), False, value)
        self.assertIs(shows_steadied(book, ("none", strikes[:2])), False)
        self.assertIs(shows_steadied(book, ("none", strikes[1:])), False)
        self.assertIs(shows_steadied(book, ("pairing", strikes)), False)
        self.assertIs(shows_steadied(book, ("none", (("cy", "ann", "dan"),) + strikes[1:])), False)
        self.assertIs(shows_steadied(book, ("none", (("cy", "ann", ""),) + strikes[1:])), False)
        self.assertIs(shows_steadied(book, ("none", (("cy", "ann", "ann"),) + strikes[1:])), False)
        self.assertIs(shows_steadied(book, ("none", strikes + (("cy", "", "ann"),))), False)
        # What is bare stays bare, so right strikes may follow.
        walk = Walk(book)
        self.assertTrue(walk.goes(strikes))
        self.assertIs(shows_steadied(book, ("none", strikes + tuple(walk.right()[:1]))), True)

    def test_other_pairings(self):
        for book, bound, barred in books(60):
            for side in ("ones", "others"):
                told = steadied(book, bound=bound, barred=barred, side=side)
                for pairs in sure_pairings(book) + [()]:
                    pairing = Pairing(Book(book.text), pairs)
                    shown = shows_steadied(book, ("pairing", pairing), bound=bound, barred=barred, side=side)
                    self.assertIs(shown, told == ("pairing", pairing))

    def test_pairings_of_other_books(self):
        book = rings(1)
        told = steadied(book)[1]
        self.assertIs(shows_steadied(book, ("pairing", Pairing(rings(1), told.pairs))), True)
        for other in (book.unsaid(0), book.said("ap", ("ar", "as"))):
            self.assertIs(shows_steadied(book, ("pairing", told.on(other))), False)
        for value in bent(("pairing", told)) + [("pairing", told.pairs), ("none", told), ("pairing", [told]), told, ("pairing",),
                                                ("none", told.pairs), ("pairing", told, told), ("pairing", None)]:
            self.assertIs(shows_steadied(book, value), False)

    def test_any_values(self):
        for book in (Book(TEXT), rings(1)):
            for value in any_values() + [(), "", "none", "pairing", ("none",), ("pairing",), ["none", ()], ("None", ()), book]:
                for part in (value, ("none", value), ("pairing", value), ("none", (value,)), ("none", ((value,) * 3,)),
                             ("none", value, value), (value, ()), (value, value), ["none", value]):
                    for side in ("ones", "others"):
                        self.assertIs(shows_steadied(book, part, side=side), False)

    def test_the_answer_for_one_call_is_not_shown_for_another(self):
        book = rings(1)
        told = steadied(book)
        self.assertIs(shows_steadied(book, told, side="others"), False)
        self.assertIs(shows_steadied(book, told, bound=(("ap", "ar"),)), True)
        self.assertIs(shows_steadied(book, told, bound=(("ap", "ar"),), side="others"), True)
        self.assertIs(shows_steadied(book, told, bound=(("ap", "as"),)), False)
        self.assertIs(shows_steadied(book, told, barred=(("ap", "as"),), side="others"), True)
        self.assertIs(shows_steadied(book, told, barred=(("ap", "ar"),)), False)
        barred = (("ap", "ar"), ("ap", "as"))
        none = steadied(book, barred=barred)
        self.assertIs(shows_steadied(book, none, barred=barred), True)
        self.assertIs(shows_steadied(book, none), False)


class ErrorsTest(StrikingCase):

    def setUp(self):
        self.book = Book("ones b a c\nothers y x z")
        self.bad_pairs = any_values() + [
            "", "ax", ("a", "x"), (("a", "x"), ("a", "x")), (("b", "y"), ("a", "x")), (("x", "a"),), (("a", "b"),), (("a", ""),),
            (("a", "k"),), (("a", "x", "y"),), (("a",),), ((),), {("a", "x"): 1}, [("a", "x")], (["a", "x"],), (("a", None),)]

    def calls(self):
        return ((unstruck, ()), (steadied, ()), (shows_steadied, (None,)), (shows_steadied, (("none", ()),)))

    def test_bad_bound(self):
        more = [(("a", "x"), ("b", "x")), (("a", "x"), ("a", "y"))] + bent((("a", "x"), ("b", "y")))
        for value in self.bad_pairs + more:
            for call, args in self.calls():
                self.refused(BadBound, value, call, self.book, *args, bound=value)
                self.refused(BadBound, value, call, self.book, *args, bound=value, barred=None)

    def test_bad_barred(self):
        for value in self.bad_pairs + bent((("a", "x"), ("a", "y"), ("b", "x"))):
            for call, args in self.calls():
                self.refused(BadBarred, value, call, self.book, *args, barred=value)
                self.refused(BadBarred, value, call, self.book, *args, barred=value, bound=(("a", "x"),))
        for value in ((("a", "y"), ("a", "x")), (("a", "x"), ("a", "y"), ("a", "y")), (("b", "x"), ("a", "y"))):
            self.refused(BadBarred, value, unstruck, self.book, barred=value)

    def test_persons_in_several_barred_pairs(self):
        every = tuple((one, other) for one in "abc" for other in "xyz")
        for value in ((("a", "x"), ("a", "y")), (("a", "x"), ("b", "x")), every):
            self.assertEqual(len(unstruck(self.book, barred=value)), 6)
            self.assertEqual(steadied(self.book, barred=value)[0], "none")

    def test_bad_side(self):
        for value in any_values() + ["", "one", "Ones", "other", (), ("ones",), ["ones"], "a"]:
            if value == "ones":
                continue
            for call, args in self.calls()[1:]:
                self.refused(BadSide, value, call, self.book, *args, side=value)

    def test_the_first_error_is_told(self):
        for call, args in self.calls()[1:]:
            bound, barred, side = [("a", "x")], ["barred"], ["side"]
            self.refused(BadBound, bound, call, self.book, *args, side=side, barred=barred, bound=bound)
            self.refused(BadBarred, barred, call, self.book, *args, side=side, barred=barred, bound=())
            self.refused(BadSide, side, call, self.book, *args, side=side, barred=(("a", "x"),), bound=(("a", "x"),))
        self.refused(BadBound, None, unstruck, self.book, barred=None, bound=None)

    def test_bound_barred_and_side_go_by_name_alone(self):
        for call, args in self.calls():
            with self.assertRaises(TypeError):
                call(self.book, *args, ())
        self.assertEqual(unstruck(book=self.book, barred=(), bound=()), unstruck(self.book))
        self.assertEqual(steadied(side="others", barred=(), bound=(), book=self.book), steadied(self.book, side="others"))
        told = steadied(self.book)
        self.assertIs(shows_steadied(side="ones", barred=(), bound=(), value=told, book=self.book), True)
        self.assertIs(shows_steadied(self.book, value=told), True)

    def test_only_arguments_raise(self):
        try:
            for value in any_values() + bent(steadied(self.book)):
                shows_steadied(self.book, value)
        except PairError as error:
            self.fail(error)


if __name__ == "__main__":
    unittest.main()
