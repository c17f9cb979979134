"""Points 2, 3 and 13: journals of halls, and halls read from them."""

import random
import unittest

from factpairs import journals as module
from factpairs.books import Book
from factpairs.errors import BadJournal, NothingToRedo, NothingToUndo, PairError
from factpairs.halls import Hall
from factpairs.journals import journal, read_journal
from tests.helpers import PairCase, TEXT, any_values, rings, side_by_side, telling_book
from tests.test_halls import Model, some_deed

HEAD = TEXT + "\nhall"
LINES = len(HEAD.split("\n"))


def after(hall):
    """All that a hall tells of its deeds, back to the first one."""
    hall, found = hall.copy(), []
    while True:
        found.append((hall.book.text, hall.pairing.pairs, hall.done))
        try:
            hall.undo()
        except NothingToUndo:
            return found


def line_of(word, args):
    """The line of a deed, as the document tells it."""
    words = [word] + [part for arg in args for part in (arg if isinstance(arg, tuple) else [str(arg)])]
    return " ".join(each or "nobody" for each in words)


def chance_hall(seed, steps=25):
    """A Hall with deeds by chance, some taken back and done again, the book it began with, and the lines that stand."""
    chance, book = random.Random(seed), telling_book(seed, 3)
    hall, model = Hall(book), Model(book)
    lines, back = [], []
    for _ in range(steps):
        word, args = some_deed(model, chance)
        if getattr(model, word)(*args) is None:
            getattr(hall, word)(*args)
            if word == "undo":
                back.append(lines.pop())
            elif word == "redo":
                lines.append(back.pop())
            else:
                lines.append(line_of(word, args))
                back = []
    return hall, book, lines


class JournalTest(PairCase):

    def test_what_the_interface_lists(self):
        for name in ("journal", "read_journal"):
            self.assertEqual(getattr(module, name).__module__, "factpairs.journals")

    def test_lines_of_deeds(self):
        hall = Hall(Book(TEXT))
        self.assertEqual(journal(hall), HEAD)
        hall.say("bea", ("dan", "cy", ""))
        hall.unsay(0)
        hall.unite("ann", "dan")
        hall.say("ann", ("dan", ""))
        hall.part("ann", "dan")
        hall.say("ann", ("cy", "dan"))
        hall.say("dan", ("ann", "bea", ""))
        hall.say("cy", ("bea", "ann"))
        self.assertEqual(hall.settle(), (("ann", "cy"), ("bea", "dan")))
        self.assertEqual(journal(hall).split("\n")[LINES:], [
            "say bea dan cy nobody", "unsay 0", "unite ann dan", "say ann dan nobody", "part ann dan", "say ann cy dan",
            "say dan ann bea nobody", "say cy bea ann", "settle"])
        self.assertEqual(journal(hall).split("\n")[:LINES], HEAD.split("\n"))
        hall.undo()
        hall.undo()
        self.assertTrue(journal(hall).endswith("part ann dan\nsay ann cy dan\nsay dan ann bea nobody"))
        hall.redo()
        self.assertTrue(journal(hall).endswith("\nsay cy bea ann"))

    def test_against_lines(self):
        for seed in range(120):
            hall, book, lines = chance_hall(seed)
            self.assertEqual(journal(hall), "\n".join([book.text, "hall", *lines]))
            self.assertEqual(journal(hall=hall), journal(hall))

    def test_nobody_is_a_word_in_lines(self):
        book = Book("ones a\nothers x")
        hall = Hall(book)
        hall.say("a", ("", "x"))
        hall.say("x", ("a", ""))
        self.assertEqual(journal(hall), "ones a\nothers x\nhall\nsay a nobody x\nsay x a nobody")
        self.assertEqual(read_journal(journal(hall)).book.sayings, (("a", ("", "x")), ("x", ("a", ""))))

    def test_a_book_with_a_person_called_hall(self):
        book = Book("ones hall say\nothers settle undo\nhall rather settle nobody")
        hall = Hall(book)
        hall.unite("hall", "undo")
        hall.say("say", ("settle", "undo"))
        text = journal(hall)
        self.assertEqual(text, book.text + "\nhall\nunite hall undo\nsay say settle undo")
        self.assertEqual([read_journal(text), journal(read_journal(text))], [hall, text])

    def test_what_a_block_left(self):
        hall = Hall(Book(TEXT))
        hall.unite("ann", "cy")
        with hall.trial():
            hall.unite("bea", "dan")
            self.assertTrue(journal(hall).endswith("\nunite ann cy\nunite bea dan"))
        self.assertEqual(journal(hall), HEAD + "\nunite ann cy")
        hall.tried(lambda held: held.unsay(6), keep=True)
        self.assertEqual(journal(hall), HEAD + "\nunite ann cy\nunsay 6")

    def test_journals_change_nothing(self):
        hall, book, lines = chance_hall(3)
        before = after(hall)
        self.assertEqual([journal(hall), after(hall)], [journal(hall), before])


class ReadJournalTest(PairCase):

    def test_read_back(self):
        done = set()
        for seed in range(150):
            hall, book, lines = chance_hall(seed)
            again = read_journal(journal(hall))
            self.assertIs(again.__class__, Hall)
            self.assertEqual([again, again.done, journal(again)], [hall, hall.done, journal(hall)])
            self.assertEqual(after(again), after(hall))
            self.refused(NothingToRedo, None, again.redo)
            done.add(again.done)
            # It goes on alike.
            chance, model = random.Random(seed + 1), Model(book)
            for each in (hall, again):
                model.restore((tuple_state(each), [], []))
            for _ in range(6):
                word, args = some_deed(model, chance)
                if word not in ("undo", "redo"):
                    told = [self.tell(each, word, args) for each in (hall, again)]
                    self.assertEqual(told[0], told[1])
                    self.assertEqual(hall, again)
                    model.restore((tuple_state(hall), [], []))
        self.assertGreater(len(done), 8)

    def tell(self, hall, word, args):
        try:
            return getattr(hall, word)(*args)
        except PairError as error:
            return error.__class__, hall.book if isinstance(error.value, Book) else error.value

    def test_of_a_hall_whose_deeds_were_taken_back(self):
        hall = Hall(Book(TEXT))
        hall.unite("ann", "cy")
        hall.undo()
        again = read_journal(journal(hall))
        self.refused(NothingToRedo, None, again.redo)
        self.refused(NothingToUndo, None, again.undo)
        hall.redo()
        self.assertEqual(hall["ann"], "cy")

    def test_a_journal_of_nine_thousand_characters(self):
        for book, pair in ((Book(TEXT), ("ann", "cy")), (side_by_side((10, 10, 3), 1, 5), ("ap", "aw"))):
            hall = Hall(book)
            at = 0
            while len(journal(hall)) < 8900:
                if hall[pair[0]]:
                    hall.part(*pair)
                elif hall[pair[1]]:
                    hall.part(hall[pair[1]], pair[1])
                else:
                    hall.unite(*pair)
                at += 1
                if at % 5 == 0:
                    hall.say(*hall.book.sayings[at % len(hall.book)])
                    hall.unsay(at % len(hall.book))
            text = journal(hall)
            again = read_journal(text)
            self.assertEqual([again, again.done, journal(again)], [hall, hall.done, text])
            for _ in range(again.done):
                again.undo()
            self.assertEqual(again, Hall(book))

    def test_many_settles(self):
        book = rings(6)
        text = "\n".join([book.text, "hall"] + ["settle"] * 900)
        hall = read_journal(text)
        self.assertEqual([hall.done, len(hall), journal(hall) == text], [900, 12, True])

    def test_no_string(self):
        for value in any_values():
            if not isinstance(value, str):
                with self.assertRaises(BadJournal) as held:
                    read_journal(value)
                self.assertEqual(held.exception.value, 0)
        self.wrong(0, HEAD.split("\n"))
        self.wrong(0, None)
        self.wrong(0, Hall(Book(TEXT)))

    def wrong(self, number, text):
        with self.assertRaises(PairError) as held:
            read_journal(text)
        self.assertIs(held.exception.__class__, BadJournal)
        self.assertIs(held.exception.value.__class__, int)
        self.assertEqual(held.exception.value, number, text)
        with self.assertRaises(BadJournal):
            read_journal(text=text)

    def test_no_line_hall(self):
        self.wrong(2, "")
        self.wrong(3, "\n")
        self.wrong(2, "ones")
        self.wrong(LINES, TEXT)
        self.wrong(LINES + 1, TEXT + "\n")
        self.wrong(LINES + 1, TEXT + "\nhall ")
        self.wrong(LINES + 1, TEXT + "\n hall")
        self.wrong(LINES + 1, TEXT + "\nHall")
        self.wrong(LINES + 2, TEXT + "\nhalls\nsettle")
        self.wrong(LINES + 1, TEXT + "\nhall hall")
        # Whatever else is wrong.
        self.wrong(4, "others x\nones a\nwrong")
        self.wrong(5, "\n\n\n")

    def test_the_line_hall_first(self):
        self.wrong(1, "hall")
        self.wrong(1, "hall\n" + TEXT)
        self.wrong(1, "hall\nhall")
        self.wrong(1, "hall\n" + HEAD)

    def test_a_book_of_which_a_line_is_missing(self):
        self.wrong(2, "ones a\nhall")
        self.wrong(2, "ones a\nhall\nothers x\nhall")
        self.assertEqual(read_journal("ones a\nothers x\nhall").book, Book("ones a\nothers x"))

    def test_a_book_that_is_wrong(self):
        lines = HEAD.split("\n")
        for at in range(LINES - 1):
            for line in ("", " ", "settle", lines[at] + " ", " " + lines[at], lines[at].replace(" ", "  ", 1), "unite ann cy"):
                self.wrong(at + 1, "\n".join(lines[:at] + [line] + lines[at + 1:]))
                self.wrong(at + 1, "\n".join(lines[:at] + [line] + lines[at + 1:] + ["wrong", "settle"]))
        self.wrong(LINES, TEXT + "\nann rather dan cy\nhall")
        self.wrong(LINES, TEXT + "\n\nhall")
        self.wrong(1, "\nhall")
        self.wrong(2, "ones a\nothers a\nhall")
        self.wrong(63, "\n".join(["ones a", "others x"] + ["a rather x nobody"] * 61 + ["hall"]))

    def test_a_second_line_hall_is_no_deed(self):
        self.wrong(LINES + 1, HEAD + "\nhall")
        self.wrong(LINES + 2, HEAD + "\nunite ann cy\nhall\nsettle")

    def test_lines_of_no_such_form(self):
        right = ["say bea dan cy", "unsay 0", "unite ann cy", "part ann cy", "settle"]
        for at, line in enumerate(right):
            if line.startswith("part"):
                start, ahead = HEAD + "\nunite ann cy", 1
            elif line == "settle":
                start, ahead = HEAD + "\nsay bea dan cy", 1
            else:
                start, ahead = HEAD, 0
            self.assertEqual(read_journal(start + "\n" + line).done, ahead + 1)
            words = line.split(" ")
            wrong = [line + " ", " " + line, line.replace(" ", "  ", 1) if " " in line else line + "  ", line.upper(),
                     line + ".", line + "s", "x" + line, "", " "]
            for place in range(len(words)):
                wrong.append(" ".join(words[:place] + words[place + 1:]))
                wrong.append(" ".join(words[:place] + [words[place], words[place]] + words[place + 1:]))
                wrong.append(" ".join(words[:place] + ["eve"] + words[place + 1:]))
            wrong.append(" ".join(words + ["ann"]))
            for other in wrong:
                self.wrong(LINES + ahead + 1, start + "\n" + other)
                self.wrong(LINES + ahead + 1, start + "\n" + other + "\nsettle\nwrong")

    def test_blanks_are_no_words(self):
        # An empty word must not be taken for nobody, even where the number of words is right.
        for line in ("say bea dan ", "say bea  dan", "say  dan cy", "unite bea ", "unite  dan", "part bea ", "unsay ", "settle ", " settle"):
            self.wrong(LINES + 1, HEAD + "\n" + line)

    def test_other_words_are_no_deeds(self):
        for line in ("undo", "redo", "who ann", "word", "pairs", "sure", "rather ann cy dan", "ann rather cy dan", "trial", "keep",
                     "copy", "say", "say ann", "say ann cy", "unsay", "unite ann", "unite", "part", "part ann", "settle ann",
                     "unsay 0 0", "Settle", "ones a"):
            self.wrong(LINES + 1, HEAD + "\n" + line)

    def test_numbers(self):
        for word in ("00", "01", "007", "-0", "-1", "+1", "1.0", "0x1", "1_0", "one", "", "0 ", "7", "10", "123456789012", "True"):
            self.wrong(LINES + 1, HEAD + "\nunsay " + word)
        for number in range(7):
            hall = read_journal(HEAD + f"\nunsay {number}")
            self.assertEqual(hall.book, Book(TEXT).unsaid(number))
        long = Book("ones a\nothers x\n" + "\n".join(["a rather x nobody"] * 59))
        self.assertEqual(len(read_journal(long.text + "\nhall\nunsay 58\nunsay 10\nunsay 20").book), 56)

    def test_refused_deeds(self):
        for lines, number in [("unite ann bea", 1), ("unite cy ann", 1), ("unite ann nobody", 1), ("unite nobody nobody", 1),
                              ("unite ann cy\nunite bea cy", 2), ("unite ann cy\nunite ann cy", 2), ("part ann cy", 1),
                              ("unite ann cy\npart ann dan\nwrong", 2), ("settle", 1), ("say nobody cy dan", 1), ("say eve cy dan", 1),
                              ("say ann cy cy", 1), ("say ann cy nobody cy", 1), ("say ann dan cy", 1), ("say ann nobody cy", 1),
                              ("unsay 7", 1), ("unsay 6\nunsay 6", 2), ("say bea cy dan\nsay bea dan cy", 2)]:
            self.wrong(LINES + number, HEAD + "\n" + lines)
            self.wrong(LINES + number, HEAD + "\n" + lines + "\n\nwrong")
        full = Book("ones a\nothers x\n" + "\n".join(["a rather x nobody"] * 59)).text + "\nhall\nsay x a nobody"
        self.assertEqual(len(read_journal(full).book), 60)
        self.wrong(64, full + "\nsay x a nobody")

    def test_nobody_and_words_of_any_signs(self):
        self.assertEqual(read_journal(HEAD + "\nsay bea dan nobody\nsay dan ann nobody").book.sayings[-2:],
                         (("bea", ("dan", "")), ("dan", ("ann", ""))))
        for line in ("say ann cy $", "say A1 cy dan", "unite ann c-y", "say ann Nobody cy", "unite ann cy,"):
            self.wrong(LINES + 1, HEAD + "\n" + line)

    def test_line_feed_at_the_end(self):
        self.wrong(LINES + 1, HEAD + "\n")
        self.wrong(LINES + 2, HEAD + "\nunite ann cy\n")


def tuple_state(hall):
    """What a Model holds of the hall now."""
    return hall.book.sayings, frozenset(hall.pairing.pairs)


if __name__ == "__main__":
    unittest.main()
