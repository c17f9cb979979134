"""Points 2, 3 and 13: a desk, each line and each of its answers."""

import random
import unittest

from factpairs import desk as module
from factpairs.books import Book
from factpairs.desk import Desk
from factpairs.errors import (BadChoice, BadJournal, BadLine, BadPair, BadRow, Full, NoneSure, NoPerson, NoSaying, NothingToRedo,
                              NothingToUndo, NotTogether, PairError, Round, Taken)
from factpairs.halls import Hall
from factpairs.journals import journal, read_journal
from tests.helpers import (PairCase, TEXT, any_values, choices_of, kinds, large, rings,
                           side_by_side, sure, sure_pairings, telling_book)
from tests.test_halls import Model, some_deed
from tests.test_journals import HEAD, LINES, line_of

RING = "ones a b\nothers x y\na rather x y nobody\nb rather y x nobody\nx rather b a nobody\ny rather a b nobody\nhall"


class DeskCase(PairCase):

    def told(self, desk, line, answer):
        """The desk answers so."""
        self.assertEqual(kinds(desk.say(line)), kinds(answer), line)

    def wrong(self, desk, line, error, value):
        """The desk raises this, and nothing is changed."""
        hall = desk.hall
        before = journal(hall), hall.copy(), hall.done, len(hall.undone)
        with self.assertRaises(PairError) as held:
            desk.say(line)
        self.assertIs(held.exception.__class__, error, line)
        self.assertEqual(kinds(held.exception.value), kinds(value), line)
        self.assertIs(desk.hall, hall)
        self.assertEqual((journal(hall), hall, hall.done, len(hall.undone)), before)


class DeskTest(DeskCase):

    def test_what_the_interface_lists(self):
        self.assertEqual(Desk.__module__, "factpairs.desk")
        self.assertIs(module.Desk, Desk)
        self.assertIn("say", vars(Desk))
        self.assertIn("hall", vars(Desk(HEAD)))

    def test_hall_of_a_journal(self):
        text = HEAD + "\nunite ann cy\nsay bea dan cy"
        desk = Desk(text=text)
        self.assertIs(desk.hall.__class__, Hall)
        self.assertEqual([desk.hall, journal(desk.hall), desk.hall.done], [read_journal(text), text, 2])

    def test_bad_journal(self):
        for text, number in [("", 2), (TEXT, LINES), (HEAD + "\n", LINES + 1), (HEAD + "\nunite ann bea", LINES + 1), ("hall", 1)]:
            with self.assertRaises(BadJournal) as held:
                Desk(text)
            self.assertEqual(kinds(held.exception.value), kinds(number))
        for value in any_values():
            if not isinstance(value, str):
                with self.assertRaises(BadJournal) as held:
                    Desk(value)
                self.assertEqual(kinds(held.exception.value), kinds(0))

    def test_it_is_the_very_hall(self):
        desk = Desk(HEAD)
        hall = desk.hall
        desk.say("unite ann cy")
        self.assertEqual([hall["ann"], desk.hall is hall], ["cy", True])
        hall.unite("bea", "dan")
        self.told(desk, "pairs", "ann cy, bea dan")
        desk.say("undo")
        self.assertEqual([hall.pairing.pairs, desk.hall is hall], [(("ann", "cy"),), True])
        with hall.trial():
            desk.say("part ann cy")
        self.told(desk, "who ann", "cy")

    def test_deeds(self):
        desk = Desk(HEAD)
        for line in ("say bea dan cy", "say cy ann bea nobody", "unsay 8", "unsay 0", "unite ann dan", "unite bea cy", "part ann dan",
                     "unite ann dan", "undo", "undo", "redo", "redo"):
            self.told(desk, line, "ok")
        self.assertEqual(journal(desk.hall), HEAD + "\nsay bea dan cy\nsay cy ann bea nobody\nunsay 8\nunsay 0\nunite ann dan\n"
                         "unite bea cy\npart ann dan\nunite ann dan")
        self.assertEqual(desk.hall.book.sayings, Book(TEXT).said("bea", ("dan", "cy")).unsaid(0).sayings)
        self.told(desk, "say dan ann nobody", "ok")
        self.assertEqual(desk.hall.book.sayings[-1], ("dan", ("ann", "")))

    def test_settle(self):
        desk = Desk(RING)
        self.told(desk, "settle", "2")
        self.told(desk, "settle", "2")
        self.assertEqual([desk.hall.pairing.pairs, desk.hall.done], [(("a", "x"), ("b", "y")), 2])
        self.told(Desk("ones a\nothers x\na rather nobody x\nhall"), "settle", "0")
        self.told(Desk(rings(6).text + "\nhall"), "settle", "12")
        self.told(Desk(side_by_side((10, 3), 3).text + "\nhall"), "settle", "7")

    def test_who(self):
        desk = Desk(HEAD + "\nunite ann dan")
        for person, answer in (("ann", "dan"), ("dan", "ann"), ("bea", "nobody"), ("cy", "nobody")):
            self.told(desk, "who " + person, answer)
        for word, value in (("eve", "eve"), ("nobody", ""), ("Ann", "Ann"), ("ann,", "ann,"), ("hall", "hall")):
            self.wrong(desk, "who " + word, NoPerson, value)

    def test_rather(self):
        desk = Desk(HEAD)
        for words, answer in (("ann cy dan", "first"), ("ann dan cy", "second"), ("ann cy nobody", "first"), ("ann nobody dan", "second"),
                              ("bea cy dan", "open"), ("bea dan cy", "open"), ("bea dan nobody", "first"), ("cy nobody bea", "second")):
            self.told(desk, "rather " + words, answer)
        for words, error, value in (("eve cy dan", NoPerson, "eve"), ("nobody cy dan", NoPerson, ""), ("eve x y", NoPerson, "eve"),
                                    ("ann bea cy", BadChoice, "bea"), ("ann cy bea", BadChoice, "bea"), ("ann x y", BadChoice, "x"),
                                    ("ann ann bea", BadChoice, "ann"), ("cy dan nobody", BadChoice, "dan"), ("cy nobody cy", BadChoice, "cy"),
                                    ("ann nobody ones", BadChoice, "ones")):
            self.wrong(desk, "rather " + words, error, value)
        desk.say("say bea dan cy")
        self.told(desk, "rather bea cy dan", "second")

    def test_rather_of_one_choice(self):
        desk = Desk(HEAD + "\nunite ann cy")
        for words, error, value in (("ann cy cy", BadChoice, "cy"), ("ann dan dan", BadChoice, "dan"), ("ann nobody nobody", BadChoice, ""),
                                    ("bea dan dan", BadChoice, "dan"), ("bea nobody nobody", BadChoice, ""),
                                    ("cy ann ann", BadChoice, "ann"), ("cy nobody nobody", BadChoice, ""),
                                    ("ann eve eve", BadChoice, "eve"), ("ann ann ann", BadChoice, "ann"), ("cy dan dan", BadChoice, "dan"),
                                    ("eve cy cy", NoPerson, "eve"), ("eve eve eve", NoPerson, "eve"), ("nobody cy cy", NoPerson, ""),
                                    ("nobody nobody nobody", NoPerson, "")):
            self.wrong(desk, "rather " + words, error, value)
        # What was said since then changes nothing of it.
        for line in ("say bea dan cy", "undo"):
            desk.say(line)
            self.wrong(desk, "rather bea cy cy", BadChoice, "cy")

    def test_rather_against_books(self):
        for seed in range(40):
            book = telling_book(seed, 3)
            desk, known = Desk(book.text + "\nhall"), sure(book)
            for person in book.persons:
                choices = choices_of(book, person)
                for x in (*choices, person, "nothing"):
                    for y in (*choices, person, "nothing"):
                        line = f"rather {person} {x or 'nobody'} {y or 'nobody'}"
                        refused = [choice for choice in (x, y) if choice not in choices] + [y] * (x == y)
                        if refused:
                            self.wrong(desk, line, BadChoice, refused[0])
                        else:
                            answer = "first" if (person, x, y) in known else "second" if (person, y, x) in known else "open"
                            self.told(desk, line, answer)

    def test_word(self):
        desk = Desk(HEAD)
        self.told(desk, "word", "never")
        desk.say("unite ann cy")
        desk.say("unite bea dan")
        self.told(desk, "word", "open")
        desk.say("say bea dan cy")
        self.told(desk, "word", "sure")

    def test_pairs(self):
        desk = Desk("ones b ab a\nothers z y x\nhall")
        self.told(desk, "pairs", "-")
        for line, answer in (("unite b y", "b y"), ("unite a z", "a z, b y"), ("unite ab x", "a z, ab x, b y"), ("part a z", "ab x, b y"),
                             ("undo", "a z, ab x, b y")):
            desk.say(line)
            self.told(desk, "pairs", answer)

    def test_sure(self):
        self.told(Desk(HEAD), "sure", "none")
        self.told(Desk(HEAD + "\nsay bea dan cy"), "sure", "2")
        self.told(Desk("ones a\nothers x\na rather nobody x\nhall"), "sure", "0")
        self.told(Desk(side_by_side((10, 10, 10)).text + "\nhall"), "sure", "12")
        self.told(Desk(large().text + "\nhall"), "sure", "none")
        for seed in range(60):
            book = telling_book(seed, 3)
            found = sure_pairings(book)
            desk = Desk(book.text + "\nhall")
            self.told(desk, "sure", str(len(found[0])) if found else "none")
            self.assertEqual([desk.hall.done, len(desk.hall)], [0, 0])

    def test_what_deeds_raise(self):
        desk = Desk(HEAD + "\nunite ann dan\nunite bea cy\npart bea cy")
        for line, error, value in [
                ("say eve cy dan", NoPerson, "eve"), ("say nobody cy dan", NoPerson, ""), ("say ann cy cy", BadRow, ("cy", "cy")),
                ("say ann cy nobody cy", BadRow, ("cy", "", "cy")), ("say ann bea cy", BadRow, ("bea", "cy")),
                ("say ann nobody cy", Round, ("ann", ("", "cy"))), ("say ann dan cy nobody", Round, ("ann", ("dan", "cy", ""))),
                ("unsay 7", NoSaying, 7), ("unsay 123456789012", NoSaying, 123456789012),
                ("unite ann bea", BadPair, ("ann", "bea")), ("unite nobody cy", BadPair, ("", "cy")),
                ("unite cy ann", BadPair, ("cy", "ann")), ("unite bea nobody", BadPair, ("bea", "")),
                ("unite ann cy", Taken, "ann"), ("unite bea dan", Taken, "dan"), ("unite ann dan", Taken, "ann"),
                ("part bea cy", NotTogether, ("bea", "cy")), ("part nobody nobody", BadPair, ("", "")),
                ("part dan ann", BadPair, ("dan", "ann")), ("redo", NothingToRedo, None)]:
            self.wrong(desk, line, error, value)
        with self.assertRaises(NoneSure) as held:
            desk.say("settle")
        self.assertIs(held.exception.value, desk.hall.book)
        self.wrong(Desk(HEAD), "undo", NothingToUndo, None)
        desk.say("undo")
        # What is refused leaves what can be done again.
        self.wrong(desk, "unite ann cy", Taken, "ann")
        self.wrong(desk, "who eve", NoPerson, "eve")
        self.wrong(desk, "hello", BadLine, "hello")
        self.told(desk, "redo", "ok")

    def test_full(self):
        book = Book("ones a\nothers x\n" + "\n".join(["a rather x nobody"] * 60))
        desk = Desk(book.text + "\nhall")
        self.wrong(desk, "say x a nobody", Full, 60)
        self.wrong(desk, "say a nobody x", Round, ("a", ("", "x")))


class BadLineTest(DeskCase):

    def test_no_string(self):
        desk = Desk(HEAD)
        for value in any_values():
            with self.assertRaises(BadLine) as held:
                desk.say(value)
            self.assertIs(held.exception.value, value)
            with self.assertRaises(BadLine):
                desk.say(line=value)
        self.assertEqual([desk.hall.done, desk.hall], [0, Hall(Book(TEXT))])

    def test_line_feeds(self):
        desk = Desk(HEAD)
        for line in ("word", "pairs", "sure", "undo", "unite ann cy", "who ann", "settle"):
            for other in (line + "\n", "\n" + line, line.replace(" ", "\n", 1) + "\n", line + "\n" + line):
                self.wrong(desk, other, BadLine, other)
        self.wrong(desk, "unite ann c\ny", BadLine, "unite ann c\ny")
        self.wrong(desk, "\n", BadLine, "\n")

    def test_none_of_these_lines(self):
        desk = Desk(HEAD + "\nunite ann cy")
        right = ["say bea dan cy", "unsay 0", "unite bea dan", "part ann cy", "undo", "redo", "settle", "who ann", "rather bea cy dan",
                 "word", "pairs", "sure"]
        for line in right:
            for other in (line + " ", " " + line, line.replace(" ", "  ", 1) if " " in line else line + "  ", line.capitalize(),
                          "x" + line, line[1:], line + " ann" if not line.startswith("say") else line + "  ann"):
                self.wrong(desk, other, BadLine, other)
            words = line.split(" ")
            for at in range(len(words)):
                other = " ".join(words[:at] + words[at + 1:])
                if other != "say dan cy":
                    self.wrong(desk, other, BadLine, other)
        for line in ("", " ", "  ", "hall", "say", "say bea", "say bea dan", "unsay", "unsay 00", "unsay 01", "unsay -1", "unsay +1",
                     "unsay one", "unsay 0 0", "unsay 1.0", "unsay nobody", "unite ann", "unite ann cy bea", "who", "who ann cy",
                     "rather ann cy", "rather ann cy dan nobody", "rather", "word ann", "pairs ann", "sure none", "undo 1", "redo 1",
                     "settle 1", "ones ann", "ann rather cy dan", "keep", "trial", "copy", "help", "nobody", "sure ", "ok"):
            self.wrong(desk, line, BadLine, line)

    def test_blanks_are_no_words(self):
        # An empty word must not be taken for nobody, even where the number of words is right.
        desk = Desk(HEAD + "\nunite ann cy")
        for line in ("who ", "rather ann cy ", "rather ann  cy", "rather  ann cy", "rather   ", "say bea dan ", "say bea  dan",
                     "say  dan cy", "unite bea ", "unite  dan", "unite  ", "part ann ", "part  cy", "unsay ", "word ", " word",
                     "settle ", " settle", "undo ", " undo"):
            self.wrong(desk, line, BadLine, line)

    def test_by_position_and_by_name(self):
        desk = Desk(text=HEAD)
        self.assertEqual([desk.say(line="word"), desk.say("word")], ["never"] * 2)


class LiveTest(DeskCase):

    def answer(self, desk, line):
        try:
            return desk.say(line)
        except PairError as error:
            return error.__class__, desk.hall.book.text if isinstance(error.value, Book) else error.value

    def some_line(self, model, chance):
        """A line by chance, mostly one that can be answered."""
        word, args = some_deed(model, chance)
        if chance.random() < 0.35:
            persons = list(model.persons) + ["eve"]
            person = chance.choice(persons[:-1] if chance.random() < 0.9 else persons)
            choices = list((model.others if person in model.ones else model.ones) + ("nobody",))
            return chance.choice(["word", "pairs", "sure", f"who {person}", "wrong", f"rather {person} {chance.choice(choices)} {chance.choice(choices)}"])
        return line_of(word, args)

    def test_long_rows_of_lines(self):
        for seed in range(40):
            chance, book = random.Random(seed), telling_book(seed, 3)
            desk, model = Desk(book.text + "\nhall"), Model(book)
            for _ in range(60):
                line = self.some_line(model, chance)
                word, *words = line.split(" ")
                told = self.answer(desk, line)
                if word in ("say", "unsay", "unite", "part", "settle", "undo", "redo"):
                    args = {"say": lambda: (words[0], tuple(each.replace("nobody", "") for each in words[1:])),
                            "unsay": lambda: (int(words[0]),)}.get(word, lambda: tuple(words))
                    if word == "unsay" and not words[0].isdigit():
                        self.assertEqual(told, (BadLine, line))
                        continue
                    refused = getattr(model, word)(*args())
                    if refused is not None:
                        expected = (refused[0], model.book().text if refused[0] is NoneSure else refused[1])
                    else:
                        expected = str(len(model.now[1])) if word == "settle" else "ok"
                    self.assertEqual(kinds(told), kinds(expected), line)
                self.assertEqual(desk.hall.pairing.pairs, model.pairs())
                self.assertEqual(desk.hall.book, model.book())
            # A journal that is read back goes on alike.
            again = Desk(journal(desk.hall))
            self.assertEqual(journal(again.hall), journal(desk.hall))
            self.assertEqual(again.hall.done, desk.hall.done)
            for step in range(40):
                line = self.some_line(model, chance)
                if line == "redo" and step == 0:
                    continue
                if not desk.hall.undone or line != "redo":
                    model.restore(((desk.hall.book.sayings, frozenset(desk.hall.pairing.pairs)), [], []))
                    told = self.answer(desk, line), self.answer(again, line)
                    if line != "redo":
                        self.assertEqual(kinds(told[0]), kinds(told[1]), line)
                    self.assertEqual(desk.hall, again.hall)


if __name__ == "__main__":
    unittest.main()
