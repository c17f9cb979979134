"""Points 2, 3 and 12: halls, their deeds, what is taken back and done again, and trials."""

import random
import unittest

from factpairs import halls as module
from factpairs.books import Book
from factpairs.errors import (BadPair, BadRow, Full, NoneSure, NoPerson, NoSaying, NothingToRedo, NothingToUndo, NotTogether,
                              NoTrial, PairError, Round, Taken)
from factpairs.halls import Hall
from factpairs.journals import journal
from factpairs.judging import judged
from factpairs.pairings import Pairing
from factpairs.striking import steadied
from tests.helpers import (PairCase, TEXT, any_values, kinds, partner,
                           rings, side_by_side, sure, sure_pairings, telling_book, text_of)


class Model:
    """A hall as the document tells it, for books of few people: by sayings, pairs, and lists of what was ahead."""

    def __init__(self, book):
        self.ones, self.others = book.ones, book.others
        self.persons = book.ones + book.others
        self.now = (tuple(book.sayings), frozenset())
        self.past, self.future = [], []

    def book(self):
        return Book(text_of(self.ones, self.others, self.now[0]))

    def pairs(self):
        return tuple(sorted(self.now[1]))

    def state(self):
        return self.now, list(self.past), list(self.future)

    def restore(self, state):
        self.now, self.past, self.future = state[0], list(state[1]), list(state[2])

    def stand(self, sayings, pairs):
        self.past.append(self.now)
        self.future = []
        self.now = (sayings, frozenset(pairs))

    def say(self, person, row):
        if not isinstance(person, str) or person not in self.persons:
            return (NoPerson, person)
        choices = (self.others if person in self.ones else self.ones) + ("",)
        if not isinstance(row, tuple) or len(row) < 2 or any(row.count(x) > 1 or x not in choices for x in row):
            return (BadRow, row)
        sayings = self.now[0] + ((person, row),)
        if any((person, x, x) in sure_of(self, sayings) for x in choices):
            return (Round, (person, row))
        if len(sayings) > 60:
            return (Full, 60)
        self.stand(sayings, self.now[1])

    def unsay(self, number):
        if not isinstance(number, int) or isinstance(number, bool) or not 0 <= number < len(self.now[0]):
            return (NoSaying, number)
        self.stand(self.now[0][:number] + self.now[0][number + 1:], self.now[1])

    def unite(self, one, other):
        if one not in self.ones or other not in self.others:
            return (BadPair, (one, other))
        for person in (one, other):
            if partner(self.now[1], person):
                return (Taken, person)
        self.stand(self.now[0], self.now[1] | {(one, other)})

    def part(self, one, other):
        if one not in self.ones or other not in self.others:
            return (BadPair, (one, other))
        if (one, other) not in self.now[1]:
            return (NotTogether, (one, other))
        self.stand(self.now[0], self.now[1] - {(one, other)})

    def settle(self):
        book = self.book()
        known, found = sure(book), sure_pairings(book)
        best = [pairs for pairs in found if all(
            partner(pairs, one) == partner(other, one) or (one, partner(pairs, one), partner(other, one)) in known
            for other in found for one in self.ones)]
        if not found:
            return (NoneSure, book)
        self.stand(self.now[0], best[0])

    def undo(self):
        if not self.past:
            return (NothingToUndo, None)
        self.future.append(self.now)
        self.now = self.past.pop()

    def redo(self):
        if not self.future:
            return (NothingToRedo, None)
        self.past.append(self.now)
        self.now = self.future.pop()


def sure_of(model, sayings):
    """What is sure by these sayings, also if they go round."""
    people = Book(text_of(model.ones, model.others))

    class Said:
        ones, others = people.ones, people.others
    Said.sayings = sayings
    return sure(Said)


def some_deed(model, chance):
    """(word, arguments) of a deed by chance, mostly one that can be done."""
    word = chance.choice(["say"] * 4 + ["unsay", "unite", "unite", "unite", "part", "settle", "undo", "undo", "redo", "redo"])
    if word == "say":
        person = chance.choice(model.persons + ("eve",) if chance.random() < 0.1 else model.persons)
        choices = list((model.others if person in model.ones else model.ones) + ("",))
        chance.shuffle(choices)
        row = tuple(choices[:chance.randint(2, len(choices))])
        return word, (person, row if chance.random() < 0.9 else row[:1] + row)
    if word == "unsay":
        return word, (chance.choice([chance.randint(-1, len(model.now[0])), True]) if chance.random() < 0.2
                      else chance.randrange(len(model.now[0]) + 1),)
    if word == "unite":
        pair = (chance.choice(model.ones), chance.choice(model.others))
        return word, pair if chance.random() < 0.9 else pair[::-1]
    if word == "part":
        return word, chance.choice(sorted(model.now[1]) or [(model.ones[0], model.others[0])]) if chance.random() < 0.8 else (
            chance.choice(model.ones), chance.choice(model.others))
    return word, ()


class HallCase(PairCase):

    def alike(self, hall, model):
        """The hall tells what the model tells."""
        book = model.book()
        self.assertEqual(hall.book, book)
        self.assertEqual(hall.pairing, Pairing(book, model.pairs()))
        self.assertIs(hall.pairing.__class__, Pairing)
        self.assertEqual(kinds(hall.done), kinds(len(model.past)))
        self.assertEqual(kinds(len(hall)), kinds(len(model.now[1])))
        self.assertEqual([hall[person] for person in model.persons], [partner(model.now[1], person) for person in model.persons])

    def do(self, hall, model, word, args):
        """Does one thing with both; what is refused is refused alike and changes nothing."""
        refused = getattr(model, word)(*args)
        if refused is None:
            told = getattr(hall, word)(*args)
            if word == "settle":
                self.assertEqual(kinds(told), kinds(model.pairs()))
            else:
                self.assertIsNone(told)
        else:
            before = self.snapshot(hall)
            with self.assertRaises(PairError) as held:
                getattr(hall, word)(*args)
            self.assertIs(held.exception.__class__, refused[0])
            if refused[0] is NoneSure:
                self.assertIs(held.exception.value, hall.book)
            else:
                self.assertEqual(kinds(held.exception.value), kinds(refused[1]))
            self.assertEqual(self.snapshot(hall), before)
        self.alike(hall, model)
        return refused

    def snapshot(self, hall):
        """All that is told of a hall, also of what can be taken back and done again."""
        back, forth = hall.copy(), hall.copy()
        found = [hall.book.text, hall.pairing.pairs, hall.done, journal(hall)]
        for step, which in (("undo", back), ("redo", forth)):
            while True:
                try:
                    getattr(which, step)()
                except PairError:
                    break
                found.append((step, which.book.text, which.pairing.pairs, which.done))
        return found


class DeedsTest(HallCase):

    def test_what_the_interface_lists(self):
        self.assertEqual(Hall.__module__, "factpairs.halls")
        self.assertEqual(module.Hall, Hall)
        for name in ("say", "unsay", "unite", "part", "settle", "word", "undo", "redo", "trial", "keep", "tried", "copy"):
            self.assertIn(name, vars(Hall))
        hall = Hall(book=Book(TEXT))
        for name in ("book", "pairing", "done"):
            self.assertIn(name, vars(hall))

    def test_at_first_nobody_is_paired(self):
        book = Book(TEXT)
        hall = Hall(book)
        self.assertIs(hall.book, book)
        self.assertEqual([hall.pairing, hall.done, len(hall), hall["ann"], hall.word()], [Pairing(book, ()), 0, 0, "", "never"])

    def test_many_deeds_against_a_model(self):
        seen = {}
        for seed in range(60):
            chance = random.Random(seed)
            book = telling_book(seed, 3)
            hall, model = Hall(book), Model(book)
            for _ in range(40):
                word, args = some_deed(model, chance)
                refused = self.do(hall, model, word, args)
                seen.setdefault(word, set()).add(refused[0] if refused else None)
        self.assertEqual(seen["say"], {None, NoPerson, BadRow, Round})
        self.assertEqual(seen["unsay"], {None, NoSaying})
        self.assertEqual(seen["unite"], {None, BadPair, Taken})
        self.assertEqual(seen["part"], {None, NotTogether})
        self.assertEqual(seen["settle"], {None, NoneSure})
        self.assertEqual(seen["undo"], {None, NothingToUndo})
        self.assertEqual(seen["redo"], {None, NothingToRedo})

    def test_word_and_persons(self):
        words = set()
        for seed in range(40):
            chance, book = random.Random(seed), telling_book(seed, 3)
            hall, model = Hall(book), Model(book)
            for _ in range(10):
                self.do(hall, model, *some_deed(model, chance))
                self.assertEqual(hall.word(), judged(Pairing(model.book(), model.pairs()))[0])
                words.add(hall.word())
        self.assertEqual(words, {"sure", "open", "never"})
        hall = Hall(Book(TEXT))
        hall.unite("bea", "dan")
        self.assertEqual([hall[person] for person in ("ann", "bea", "cy", "dan")], ["", "dan", "", "bea"])
        for value in any_values():
            self.refused(NoPerson, value, lambda: hall[value])

    def test_say(self):
        hall = Hall(Book(TEXT))
        self.assertIsNone(hall.say("bea", ("dan", "cy")))
        self.assertEqual(hall.book, Book(TEXT).said("bea", ("dan", "cy")))
        self.assertIsNone(hall.say(row=("ann", "bea", ""), person="dan"))
        self.assertEqual([len(hall.book), hall.done], [9, 2])
        before = self.snapshot(hall)
        for value in any_values():
            self.refused(NoPerson, value, hall.say, value, ("cy", "dan"))
            self.refused(NoPerson, value, hall.say, person=value, row=value)
            self.refused(BadRow, value, hall.say, "ann", value)
        for row in (("cy",), ("cy", "cy"), ("ann", "bea"), ["cy", "dan"], (), ("cy", "eve"), ("cy", "nobody")):
            self.refused(BadRow, row, hall.say, "ann", row)
        with self.assertRaises(Round) as held:
            hall.say("ann", ("dan", "cy"))
        self.assertEqual(held.exception.value, ("ann", ("dan", "cy")))
        self.assertEqual(self.snapshot(hall), before)

    def test_full_behind_round(self):
        hall = Hall(Book("ones a\nothers x\n" + "\n".join(["a rather x nobody"] * 59)))
        hall.say("a", ("x", ""))
        self.assertEqual(len(hall.book), 60)
        before = self.snapshot(hall)
        self.refused(Full, Full(60).value, hall.say, "a", ("x", ""))
        self.refused(Full, Full(60).value, hall.say, "x", ("a", ""))
        with self.assertRaises(Round) as held:
            hall.say("a", ("", "x"))
        self.assertEqual(held.exception.value, ("a", ("", "x")))
        self.refused(NoPerson, "b", hall.say, "b", ())
        row = ("x",)
        self.refused(BadRow, row, hall.say, "a", row)
        self.assertEqual(self.snapshot(hall), before)

    def test_unsay(self):
        hall = Hall(Book(TEXT))
        for number in (6, 0, 2):
            left = hall.book.unsaid(number)
            self.assertIsNone(hall.unsay(number))
            self.assertEqual(hall.book, left)
        hall.unsay(number=0)
        self.assertEqual([len(hall.book), hall.done], [3, 4])
        before = self.snapshot(hall)
        for value in any_values():
            if value.__class__ is not int or value not in (0, 1):
                self.refused(NoSaying, value, hall.unsay, value)
        for value in (3, -1, True, False, "0", None):
            self.refused(NoSaying, value, hall.unsay, number=value)
        self.assertEqual(self.snapshot(hall), before)

    def test_unite(self):
        hall = Hall(Book(TEXT))
        self.assertIsNone(hall.unite("bea", "cy"))
        self.assertEqual([hall.pairing.pairs, hall.done, len(hall)], [(("bea", "cy"),), 1, 1])
        before = self.snapshot(hall)
        self.refused(Taken, "bea", hall.unite, "bea", "dan")
        self.refused(Taken, "cy", hall.unite, "ann", "cy")
        # The first of both who is not alone, be they with one another or each with somebody.
        self.refused(Taken, "bea", hall.unite, "bea", "cy")
        self.assertEqual(self.snapshot(hall), before)
        hall.unite(other="dan", one="ann")
        self.assertEqual(hall.pairing.pairs, (("ann", "dan"), ("bea", "cy")))
        self.refused(Taken, "ann", hall.unite, "ann", "cy")
        self.refused(Taken, "bea", hall.unite, one="bea", other="dan")

    def test_pairs_ascend_by_names(self):
        book = Book("ones b ab a\nothers z y x")
        hall = Hall(book)
        for pair in (("b", "y"), ("a", "z"), ("ab", "x")):
            hall.unite(*pair)
        self.assertEqual(hall.pairing.pairs, (("a", "z"), ("ab", "x"), ("b", "y")))
        hall.part("ab", "x")
        self.assertEqual(hall.pairing.pairs, (("a", "z"), ("b", "y")))

    def test_part(self):
        hall = Hall(Book(TEXT))
        hall.unite("ann", "cy")
        hall.unite("bea", "dan")
        before = self.snapshot(hall)
        for pair in (("ann", "dan"), ("bea", "cy")):
            with self.assertRaises(NotTogether) as held:
                hall.part(*pair)
            self.assertEqual(kinds(held.exception.value), kinds(pair))
        self.assertEqual(self.snapshot(hall), before)
        self.assertIsNone(hall.part("ann", "cy"))
        self.assertEqual([hall.pairing.pairs, hall.done, hall.pairing.alone], [(("bea", "dan"),), 3, ("ann", "cy")])
        with self.assertRaises(NotTogether) as held:
            hall.part(one="ann", other="cy")
        self.assertEqual(held.exception.value, ("ann", "cy"))
        hall.part(other="dan", one="bea")
        self.assertEqual([hall.pairing.pairs, hall.done], [(), 4])

    def test_no_pair(self):
        hall = Hall(Book(TEXT))
        hall.unite("ann", "cy")
        before = self.snapshot(hall)
        values = any_values() + ["bea", "", "nobody", "eve"]
        for call in (hall.unite, hall.part):
            for value in values:
                for pair in ((value, "cy"), ("ann", value), (value, value)) if value != "bea" else ((value, value), ("ann", value)):
                    with self.assertRaises(BadPair) as held:
                        call(*pair)
                    self.assertIs(held.exception.value.__class__, tuple)
                    self.assertEqual(len(held.exception.value), 2)
                    self.assertIs(held.exception.value[0], pair[0])
                    self.assertIs(held.exception.value[1], pair[1])
            with self.assertRaises(BadPair) as held:
                call("cy", "ann")
            self.assertEqual(held.exception.value, ("cy", "ann"))
        self.assertEqual(self.snapshot(hall), before)

    def test_settle(self):
        ring = Book("ones b a\nothers x y\na rather x y nobody\nb rather y x nobody\nx rather b a nobody\ny rather a b nobody")
        hall = Hall(ring)
        self.assertEqual(hall.settle(), (("a", "x"), ("b", "y")))
        self.assertEqual([hall.done, hall["a"], hall.pairing], [1, "x", Pairing(ring, (("a", "x"), ("b", "y")))])
        # It is a deed also if all are paired so already.
        self.assertEqual(hall.settle(), (("a", "x"), ("b", "y")))
        self.assertEqual(hall.done, 2)
        hall.undo()
        hall.undo()
        self.assertEqual(hall.pairing.pairs, ())
        hall.unite("a", "y")
        self.assertEqual([hall.settle(), hall.word()], [(("a", "x"), ("b", "y")), "sure"])
        hall.unsay(0)
        before = self.snapshot(hall)
        self.refused(NoneSure, hall.book, hall.settle)
        self.assertEqual(self.snapshot(hall), before)
        self.assertEqual(hall.pairing.pairs, (("a", "x"), ("b", "y")))
        alone = Hall(Book("ones a\nothers x\na rather nobody x"))
        alone.unite("a", "x")
        self.assertEqual([alone.settle(), alone.done, len(alone)], [(), 2, 0])

    def test_deeds_keep_pairs_and_books(self):
        hall = Hall(Book(TEXT))
        hall.unite("ann", "dan")
        hall.say("bea", ("dan", "cy"))
        self.assertEqual(hall.pairing, Pairing(hall.book, (("ann", "dan"),)))
        hall.unsay(0)
        self.assertEqual(hall.pairing, Pairing(hall.book, (("ann", "dan"),)))
        book, pairing = hall.book, hall.pairing
        hall.settle() if steadied(hall.book)[0] == "pairing" else None
        hall.say("cy", ("ann", "bea"))
        self.assertEqual([len(book), pairing.pairs], [7, (("ann", "dan"),)])

    def test_large_books(self):
        hall = Hall(side_by_side((10, 10, 3), 1, 3))
        told = hall.settle()
        self.assertEqual([told, hall.word(), len(hall)], [steadied(hall.book)[1].pairs, "sure", 11])
        for one, other in told:
            hall.part(one, other)
        self.assertEqual([len(hall), hall.done], [0, 12])
        for one, other in told[::-1]:
            hall.unite(one, other)
        self.assertEqual([hall.pairing.pairs, hall.done], [told, 23])


class UndoTest(HallCase):

    def test_nothing_to_undo_or_redo(self):
        hall = Hall(Book(TEXT))
        self.refused(NothingToUndo, None, hall.undo)
        self.refused(NothingToRedo, None, hall.redo)
        hall.unite("ann", "cy")
        self.refused(NothingToRedo, None, hall.redo)
        self.assertIsNone(hall.undo())
        self.refused(NothingToUndo, None, hall.undo)
        self.assertIsNone(hall.redo())
        self.refused(NothingToRedo, None, hall.redo)
        self.assertEqual([hall.done, hall["ann"]], [1, "cy"])

    def test_all_back_and_all_again(self):
        for seed in range(30):
            chance, book = random.Random(seed), telling_book(seed, 3)
            hall, model = Hall(book), Model(book)
            states = [(hall.book.text, hall.pairing.pairs, hall.done)]
            for _ in range(30):
                word, args = some_deed(model, chance)
                if word not in ("undo", "redo") and self.do(hall, model, word, args) is None:
                    states.append((hall.book.text, hall.pairing.pairs, hall.done))
            for state in states[:-1][::-1]:
                hall.undo()
                self.assertEqual((hall.book.text, hall.pairing.pairs, hall.done), state)
            self.refused(NothingToUndo, None, hall.undo)
            for state in states[1:]:
                hall.redo()
                self.assertEqual((hall.book.text, hall.pairing.pairs, hall.done), state)
            self.refused(NothingToRedo, None, hall.redo)

    def test_a_refused_deed_leaves_what_can_be_done_again(self):
        hall = Hall(Book(TEXT))
        hall.unite("ann", "cy")
        hall.unite("bea", "dan")
        hall.undo()
        for call in (lambda: hall.unite("ann", "dan"), lambda: hall.part("bea", "dan"), hall.settle, lambda: hall.unsay(7),
                     lambda: hall.say("ann", ("dan", "cy")), lambda: hall.unite("cy", "ann"), hall.keep):
            with self.assertRaises(PairError):
                call()
        hall.redo()
        self.assertEqual(hall.pairing.pairs, (("ann", "cy"), ("bea", "dan")))

    def test_another_deed_leaves_nothing_to_do_again(self):
        for call in (lambda hall: hall.unite("ann", "cy"), lambda hall: hall.part("bea", "dan"), lambda hall: hall.unsay(0),
                     lambda hall: hall.say("bea", ("dan", "cy")), lambda hall: hall.say("ann", ("cy", "dan"))):
            hall = Hall(Book(TEXT))
            hall.unite("bea", "dan")
            hall.unite("ann", "cy")
            hall.undo()
            call(hall)
            self.refused(NothingToRedo, None, hall.redo)
            self.assertEqual(hall.done, 2)
        hall = Hall(rings(1))
        hall.settle()
        hall.settle()
        hall.undo()
        hall.settle()
        self.refused(NothingToRedo, None, hall.redo)


class TrialTest(HallCase):

    def hall(self):
        """A hall with deeds to take back and to do again."""
        hall = Hall(Book(TEXT))
        hall.unite("ann", "dan")
        hall.say("bea", ("dan", "cy"))
        hall.unite("bea", "cy")
        hall.undo()
        return hall

    def change(self, hall):
        hall.undo()
        hall.part("ann", "dan")
        hall.say("dan", ("ann", "bea"))
        hall.unsay(0)
        hall.unite("ann", "cy")

    def test_not_kept(self):
        hall = self.hall()
        before = self.snapshot(hall)
        with hall.trial() as held:
            self.assertIs(held, hall)
            self.change(hall)
            self.assertEqual([hall.done, hall["ann"]], [5, "cy"])
        self.assertEqual(self.snapshot(hall), before)
        hall.redo()
        self.assertEqual(hall["bea"], "cy")

    def test_kept(self):
        for when in (0, 1):
            hall, other = self.hall(), self.hall()
            with hall.trial():
                if when == 0:
                    self.assertIsNone(hall.keep())
                self.change(hall)
                if when == 1:
                    hall.keep()
                    hall.keep()
            self.change(other)
            self.assertEqual(self.snapshot(hall), self.snapshot(other))
            hall.undo()
            self.assertEqual(hall["ann"], "")

    def test_deeds_behind_keep_are_kept_too(self):
        hall = self.hall()
        with hall.trial():
            hall.keep()
            hall.redo()
        self.assertEqual([hall["bea"], hall.done], ["cy", 3])

    def test_left_by_an_error(self):
        for error in (NoPerson("eve"), KeyError(1), ZeroDivisionError(), StopIteration(), KeyboardInterrupt()):
            for keep in (False, True):
                hall = self.hall()
                before = self.snapshot(hall)
                with self.assertRaises(error.__class__) as held:
                    with hall.trial():
                        self.change(hall)
                        if keep:
                            hall.keep()
                        raise error
                self.assertIs(held.exception, error)
                self.assertEqual(self.snapshot(hall), before)
                self.refused(NoTrial, None, hall.keep)

    def test_an_error_that_does_not_leave_it(self):
        hall = self.hall()
        with hall.trial():
            with self.assertRaises(Taken):
                hall.unite("ann", "cy")
            hall.unsay(0)
            hall.keep()
        self.assertEqual([hall.done, len(hall.book)], [3, 7])

    def test_what_is_refused_within_changes_nothing(self):
        hall = self.hall()
        with hall.trial():
            hall.part("ann", "dan")
            before = self.snapshot(hall)
            for call in (lambda: hall.part("ann", "dan"), lambda: hall.unsay(8), lambda: hall.say("eve", ()), hall.redo):
                with self.assertRaises(PairError):
                    call()
            self.assertEqual(self.snapshot(hall), before)

    def test_three_deep(self):
        for which in range(8):
            for failing in (None, 0, 1, 2):
                hall = self.hall()
                begins = [self.snapshot(hall)]
                try:
                    with hall.trial():
                        hall.part("ann", "dan")
                        begins.append(self.snapshot(hall))
                        try:
                            with hall.trial():
                                hall.unsay(0)
                                begins.append(self.snapshot(hall))
                                try:
                                    with hall.trial():
                                        hall.unite("ann", "cy")
                                        inner = self.snapshot(hall)
                                        if which & 4:
                                            hall.keep()
                                        if failing == 2:
                                            raise LookupError
                                except LookupError:
                                    pass
                                third = inner if which & 4 and failing != 2 else begins[2]
                                self.assertEqual(self.snapshot(hall), third)
                                if which & 2:
                                    hall.keep()
                                if failing == 1:
                                    raise LookupError
                        except LookupError:
                            pass
                        second = third if which & 2 and failing != 1 else begins[1]
                        self.assertEqual(self.snapshot(hall), second)
                        if which & 1:
                            hall.keep()
                        if failing == 0:
                            raise LookupError
                except LookupError:
                    pass
                self.assertEqual(self.snapshot(hall), second if which & 1 and failing != 0 else begins[0])
                self.refused(NoTrial, None, hall.keep)

    def test_keep_belongs_to_the_innermost_block(self):
        hall = self.hall()
        before = self.snapshot(hall)
        with hall.trial():
            with hall.trial():
                hall.unsay(0)
                hall.keep()
            self.assertEqual(len(hall.book), 7)
        self.assertEqual(self.snapshot(hall), before)
        with hall.trial():
            hall.keep()
            with hall.trial():
                hall.unsay(0)
            self.assertEqual(len(hall.book), 8)
            hall.unite("bea", "cy")
        self.assertEqual([len(hall.book), hall["bea"]], [8, "cy"])

    def test_it_is_as_it_was_when_the_block_began(self):
        hall = Hall(Book(TEXT))
        block = hall.trial()
        hall.unite("ann", "cy")
        with block:
            hall.unite("bea", "dan")
        self.assertEqual([hall.pairing.pairs, hall.done], [(("ann", "cy"),), 1])

    def test_one_block_behind_another(self):
        hall = self.hall()
        for keep in (True, False, True, False):
            done = hall.done
            with hall.trial():
                hall.unsay(0)
                if keep:
                    hall.keep()
            self.assertEqual(hall.done, done + keep)

    def test_no_trial(self):
        hall = self.hall()
        before = self.snapshot(hall)
        self.refused(NoTrial, None, hall.keep)
        hall.trial()
        self.refused(NoTrial, None, hall.keep)
        with hall.trial():
            other = hall.copy()
            self.refused(NoTrial, None, other.keep)
            other.unsay(0)
        self.refused(NoTrial, None, hall.keep)
        self.assertEqual(self.snapshot(hall), before)
        # What was done with the copy stays, as it is in no block.
        self.assertEqual([other.done, len(other.book)], [3, 7])

    def test_undo_goes_beyond_the_beginning(self):
        hall = self.hall()
        with hall.trial():
            hall.undo()
            hall.undo()
            self.refused(NothingToUndo, None, hall.undo)
            self.assertEqual([hall.done, hall["ann"]], [0, ""])
            hall.keep()
        self.assertEqual([hall.done, hall["ann"]], [0, ""])
        for _ in range(3):
            hall.redo()
        self.assertEqual([hall.done, hall["bea"]], [3, "cy"])


    def go(self, hall, model, chance, deep):
        """Deeds and blocks by chance, blocks up to so deep."""
        for _ in range(chance.randint(3, 10)):
            if deep == 0 or chance.random() < 0.8:
                self.do(hall, model, *some_deed(model, chance))
                continue
            state, keep, failing = model.state(), chance.choice([None, "ahead", "behind"]), chance.random() < 0.3
            try:
                with hall.trial():
                    if keep == "ahead":
                        hall.keep()
                    self.go(hall, model, chance, deep - 1)
                    if keep == "behind":
                        hall.keep()
                    if failing:
                        raise LookupError
            except LookupError:
                pass
            if failing or keep is None:
                model.restore(state)
            self.alike(hall, model)

    def test_blocks_by_chance(self):
        for seed in range(80):
            chance, book = random.Random(seed), telling_book(seed, 3)
            hall, model = Hall(book), Model(book)
            self.go(hall, model, chance, 3)
            self.refused(NoTrial, None, hall.keep)
            for step in ("undo", "redo"):
                while self.do(hall, model, step, ()) is None:
                    pass


class TriedTest(HallCase):

    def test_not_kept(self):
        hall = Hall(Book(TEXT))
        before = self.snapshot(hall)
        for keep in (False, None, 1, "True", (True,), [True], 0, "", {}, Hall(Book(TEXT)), "yes"):
            seen = []

            def look(held):
                seen.append(held is hall)
                held.unite("ann", "cy")
                return len(held)
            self.assertEqual(hall.tried(look, keep=keep), 1)
            self.assertEqual(seen, [True])
            self.assertEqual(self.snapshot(hall), before)
        self.assertEqual(hall.tried(lambda held: held.unite("ann", "cy")), None)
        self.assertEqual(self.snapshot(hall), before)
        self.refused(NoTrial, None, hall.keep)

    def test_kept(self):
        hall = Hall(Book(TEXT))
        self.assertEqual(hall.tried(lambda held: held.unite("ann", "cy") or held["cy"], keep=True), "ann")
        self.assertEqual([hall["ann"], hall.done], ["cy", 1])

        def look(held):
            held.unite("bea", "dan")
            held.keep()
            return held
        self.assertIs(hall.tried(look), hall)
        self.assertEqual([len(hall), hall.done], [2, 2])
        hall.undo()
        self.assertIs(hall.tried(look=look, keep=False), hall)
        self.assertEqual([len(hall), hall.done], [2, 2])
        self.refused(NoTrial, None, hall.keep)

    def test_left_by_an_error(self):
        hall = Hall(Book(TEXT))
        hall.unite("bea", "dan")
        hall.undo()
        before = self.snapshot(hall)
        for error in (Taken("eve"), KeyError(0), IndexError()):
            for keep in (False, True):
                def look(held):
                    held.unite("ann", "cy")
                    held.keep()
                    raise error
                with self.assertRaises(error.__class__) as held:
                    hall.tried(look, keep=keep)
                self.assertIs(held.exception, error)
                self.assertEqual(self.snapshot(hall), before)
        with self.assertRaises(BadPair):
            hall.tried(lambda held: held.unite("ann", "cy") or held.unite("ann", "ann"), keep=True)
        self.assertEqual(self.snapshot(hall), before)

    def test_within_one_another(self):
        hall = Hall(Book(TEXT))

        def inner(held):
            held.unite("bea", "dan")
            return held.done
        for outer_keep in (False, True):
            for inner_keep in (False, True):
                fresh = hall.copy()
                told = fresh.tried(lambda held: (held.unite("ann", "cy"), held.tried(inner, keep=inner_keep), held.done),
                                   keep=outer_keep)
                self.assertEqual(told, (None, 2, 1 + inner_keep))
                self.assertEqual(fresh.done, (1 + inner_keep) * outer_keep)

    def test_a_look_that_calls_keep_in_a_block_of_its_own(self):
        hall = Hall(Book(TEXT))

        def look(held):
            with held.trial():
                held.unite("ann", "cy")
                held.keep()
            return len(held)
        self.assertEqual([hall.tried(look), len(hall)], [1, 0])
        self.assertEqual([hall.tried(look, keep=True), len(hall)], [1, 1])

    def test_keep_by_name_alone(self):
        hall = Hall(Book(TEXT))
        with self.assertRaises(TypeError):
            hall.tried(len, True)
        self.assertEqual(hall.tried(len), 0)


class CopyTest(HallCase):

    def test_neither_changes_by_what_the_other_does(self):
        for seed in range(40):
            chance, book = random.Random(seed), telling_book(seed, 3)
            hall, model = Hall(book), Model(book)
            for _ in range(12):
                self.do(hall, model, *some_deed(model, chance))
            other, twin = hall.copy(), Model(book)
            twin.restore(model.state())
            self.assertIs(other.__class__, Hall)
            self.assertEqual(self.snapshot(other), self.snapshot(hall))
            self.assertEqual(other, hall)
            for _ in range(12):
                both = chance.random() < 0.5
                self.do(*((hall, model) if both else (other, twin)), *some_deed(model if both else twin, chance))
                self.alike(hall, model)
                self.alike(other, twin)
            for each, which in ((hall, model), (other, twin)):
                while self.do(each, which, "undo", ()) is None:
                    pass
                while self.do(each, which, "redo", ()) is None:
                    pass

    def test_journal_of_a_copy(self):
        hall = Hall(Book(TEXT))
        hall.unsay(0)
        hall.unite("ann", "cy")
        other = hall.copy()
        self.assertEqual(journal(other), journal(hall))
        other.unite("bea", "dan")
        self.assertEqual(journal(other), journal(hall) + "\nunite bea dan")

    def test_copy_of_a_copy(self):
        hall = Hall(Book(TEXT))
        hall.unite("ann", "cy")
        other = hall.copy().copy()
        hall.undo()
        self.assertEqual([other.done, hall.done], [1, 0])
        other.undo()
        other.redo()
        self.assertEqual(other["ann"], "cy")


class EqualTest(HallCase):

    def test_equal_by_unlike_deeds(self):
        one, other = Hall(Book(TEXT)), Hall(Book(TEXT))
        self.assertTrue(one == other and not one != other)
        one.unite("ann", "cy")
        self.assertTrue(one != other and not one == other)
        other.unite("ann", "dan")
        self.assertNotEqual(one, other)
        other.part("ann", "dan")
        other.unite("ann", "cy")
        self.assertEqual([one == other, one.done, other.done], [True, 1, 3])
        other.say("bea", ("dan", "cy"))
        self.assertNotEqual(one, other)
        other.unsay(7)
        self.assertEqual(one, other)
        self.assertEqual(Hall(Book(TEXT).said("bea", ("dan", "cy")).unsaid(7)), Hall(Book(TEXT)))

    def test_unlike_all_else(self):
        hall = Hall(Book(TEXT))
        hall.unite("ann", "cy")
        others = any_values() + [hall.book, hall.pairing, hall.pairing.pairs, [hall], (hall,), len, Hall, "ann cy"]
        for value in others:
            self.assertFalse(hall == value)
            self.assertFalse(value == hall)
            self.assertTrue(hall != value)
        self.assertIn(hall, [Hall(Book(TEXT)), hall.copy()])
        self.assertNotIn(hall, [Hall(Book(TEXT)), Hall(rings(1))])


if __name__ == "__main__":
    unittest.main()
