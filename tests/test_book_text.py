"""Point 4: the text of a book, line by line."""

import re
import unittest

from factpairs.books import Book
from factpairs.errors import BadBook
from tests.helpers import TEXT, any_values, kinds, text_of

LINES = TEXT.split("\n")
ONES = tuple("abcdefghijklm")
OTHERS = tuple("nopqrstuvwxyz")


def side_of(line, title, taken):
    """The names of a line of a side, None if it cannot stand."""
    names = line.split(" ")[1:]
    if not re.fullmatch(title + "( [a-z]{1,8}){1,12}", line) or len(set(names + taken)) < len(names + taken):
        return None
    return None if {"nobody", "ones", "others", "rather"} & set(names) else names


def goes_round(steps, start):
    """Whether these steps lead from the start back to it."""
    reached, waiting = set(), [start]
    while waiting:
        here = waiting.pop()
        for step in steps:
            if step[0] == here and step[1] not in reached:
                reached.add(step[1])
                waiting.append(step[1])
    return start in reached


def first_wrong(text):
    """The number of the first line of a text that cannot stand, None for a right book: found another way."""
    ones, others, steps = None, None, {}
    lines = text.split("\n")
    for number, line in enumerate(lines, 1):
        if number == 1:
            ones = side_of(line, "ones", [])
        elif number == 2:
            others = side_of(line, "others", ones)
        else:
            words = line.split(" ")
            person, row = words[0], words[2:]
            choices = (others if person in ones else ones) + ["nobody"]
            if person not in ones + others or words[1:2] != ["rather"] or len(row) < 2 or number > 62:
                return number
            if not set(row) <= set(choices) or len(set(row)) < len(row):
                return number
            told = steps.setdefault(person, [])
            told.extend(zip(row, row[1:]))
            if any(goes_round(told, choice) for choice in row):
                return number
        if ones is None or number == 2 and others is None:
            return number
    return len(lines) + 1 if others is None else None


class BookTextTest(unittest.TestCase):

    def bad(self, text, number):
        with self.assertRaises(BadBook) as held:
            Book(text)
        self.assertEqual(kinds(held.exception.value), kinds(number), text)

    def bad_line(self, number, line):
        """The text with another line of this number is refused there."""
        self.bad("\n".join(LINES[:number - 1] + [line] + LINES[number:]), number)

    def test_a_right_book(self):
        book = Book(TEXT)
        self.assertEqual(book.text, TEXT)
        self.assertEqual(kinds([book.ones, book.others]), kinds([("ann", "bea"), ("cy", "dan")]))
        self.assertEqual(kinds(book.persons), kinds(("ann", "bea", "cy", "dan")))
        self.assertEqual(kinds(book.sayings), kinds((
            ("ann", ("cy", "dan", "")), ("bea", ("dan", "")), ("bea", ("cy", "")), ("cy", ("ann", "")),
            ("cy", ("bea", "")), ("dan", ("ann", "")), ("dan", ("bea", "")))))

    def test_a_book_without_sayings(self):
        book = Book("ones a\nothers b")
        self.assertEqual([book.ones, book.others, book.persons, book.sayings], [("a",), ("b",), ("a", "b"), ()])

    def test_sequences_are_those_of_the_text(self):
        book = Book("ones zoe ann\nothers yan bob\nyan rather zoe ann\nann rather bob yan")
        self.assertEqual(book.persons, ("zoe", "ann", "yan", "bob"))
        self.assertEqual([saying[0] for saying in book.sayings], ["yan", "ann"])

    def test_what_is_no_string(self):
        for value in any_values() + [(), b"ones a\nothers b", [TEXT], (TEXT,)]:
            if not isinstance(value, str):
                self.bad(value, 0)

    def test_lines_are_missing(self):
        self.bad("", 1)
        self.bad("ones ann bea", 2)
        self.bad("ones ann bea\n", 2)
        self.bad("\n", 1)
        self.bad("\nones ann\nothers cy", 1)
        self.bad("others cy dan", 1)
        self.bad("ann rather cy dan", 1)
        self.bad("ones ann bea\nann rather cy dan", 2)

    def test_blank_lines(self):
        self.bad("ones ann\n\nothers cy", 2)
        self.bad("ones ann\nothers cy\n", 3)
        self.bad(TEXT + "\n", 10)
        self.bad("\n".join(LINES[:5] + [""] + LINES[5:]), 6)
        self.bad("ones ann\nothers cy\n ", 3)

    def test_lines_twice(self):
        self.bad("ones ann\nones bea\nothers cy", 2)
        self.bad("ones ann\nones ann\nothers cy", 2)
        self.bad("ones ann\nothers cy\nothers dan", 3)
        self.bad("ones ann\nothers cy\nones bea", 3)
        self.assertEqual(len(Book("ones ann\nothers cy\nann rather cy nobody\nann rather cy nobody")), 2)

    def test_lines_exchanged(self):
        self.bad("others cy\nones ann", 1)
        self.bad("ones ann\nann rather cy nobody\nothers cy", 2)
        self.bad("ann rather cy nobody\nones ann\nothers cy", 1)

    def test_the_first_wrong_line_is_told(self):
        self.bad("one ann\nother cy\nann rather", 1)
        self.bad("ones ann\nother cy\nann rather", 2)
        self.bad("ones ann\nothers cy\nann rather\nann", 3)
        self.bad("ones ann\nothers cy\nann rather cy nobody\nann rather nobody cy\nann", 4)

    def test_the_first_line_otherwise(self):
        for line in ("one ann bea", "Ones ann bea", "oness ann bea", "ones: ann bea", " ones ann bea", "ones  ann bea",
                     "ones ann bea ", "ones ann  bea", "ones\tann bea", "ones ann\tbea", "ones ann, bea", "ones", "ones ",
                     "ann bea", "onesann bea", "others ann bea", "ones ann ann", "ones bea ann bea", ""):
            self.bad_line(1, line)

    def test_the_second_line_otherwise(self):
        for line in ("other cy dan", "Others cy dan", "otherss cy dan", " others cy dan", "others  cy dan",
                     "others cy dan ", "others cy  dan", "others cy, dan", "others", "others ", "cy dan", "ones cy dan",
                     "others cy cy", "others cy ann", "others bea", "others ann bea", ""):
            self.bad_line(2, line)

    def test_names_that_are_none(self):
        for word in ("nobody", "ones", "others", "rather", "Ann", "aNn", "ann1", "1", "an-n", "ann.", "a_b", "ninechars",
                     "abcdefghij", "-"):
            self.bad_line(1, "ones ann " + word)
            self.bad_line(1, "ones " + word + " bea")
            self.bad_line(2, "others cy " + word)
            self.bad_line(2, "others " + word)

    def test_names_that_are_some(self):
        names = ("a", "z", "abcdefgh", "stuvwxyz", "one", "other", "hall", "nobodyy", "onesa", "some", "say")
        book = Book(text_of(names, ("b", "rathe")))
        self.assertEqual(book.ones, names)
        self.assertEqual(book.others, ("b", "rathe"))

    def test_bounds_of_a_side(self):
        for many in (1, 2, 11, 12):
            self.assertEqual(Book(text_of(ONES[:many], OTHERS[:1])).ones, ONES[:many])
            self.assertEqual(Book(text_of(ONES[:1], OTHERS[:many])).others, OTHERS[:many])
        self.assertEqual(len(Book(text_of(ONES[:12], OTHERS[:12])).persons), 24)
        self.bad(text_of(ONES[:13], OTHERS[:1]), 1)
        self.bad(text_of(ONES[:1], OTHERS[:13]), 2)
        self.bad("ones a\nothers ", 2)
        self.bad("ones \nothers b", 1)

    def test_sayings_otherwise(self):
        for line in ("ann rather cy", "ann rather", "ann rather ", "ann", "rather cy dan", "ann cy dan", "ann cy rather dan",
                     "Ann rather cy dan", "ann Rather cy dan", "ann rathe cy dan", "ann rather cy dan ", " ann rather cy dan",
                     "ann  rather cy dan", "ann rather  cy dan", "ann rather cy  dan", "ann rather cy, dan",
                     "ann rather cy cy", "ann rather cy dan cy", "ann rather nobody nobody", "ann rather cy bea",
                     "ann rather bea cy", "ann rather cy ann", "ann rather ann bea", "ann rather cy Dan",
                     "ann rather cy eve", "ann rather cy nobod", "ann rather cy -", "eve rather cy dan",
                     "nobody rather cy dan", "cy rather dan ann", "cy rather cy nobody", "cy rather ann cy",
                     "ann rather rather cy dan", "ann rather cy rather dan", "ones rather cy dan", "ann\trather cy dan",
                     "ann rather cy dan nobody cy", "ann rather cy dan bea nobody", " ", "", "ones eve", "hall"):
            for number in (3, 6, 9):
                self.bad_line(number, line)

    def test_rows_of_two_and_of_all(self):
        text = text_of(("a",), OTHERS[:12])
        row = ("",) + OTHERS[:12]
        self.assertEqual(Book(text_of(("a",), OTHERS[:12], [("a", row)])).sayings, (("a", row),))
        self.assertEqual(Book(f"{text}\na rather {OTHERS[4]} nobody").sayings, (("a", (OTHERS[4], "")),))
        self.assertEqual(Book(text + "\nn rather nobody a").sayings, (("n", ("", "a")),))
        self.bad(text + "\na rather " + " ".join(OTHERS[:12]) + " nobody " + OTHERS[0], 3)
        self.bad(text + "\na rather nobody", 3)
        self.bad(text + "\nn rather a", 3)

    def test_sixty_sayings(self):
        line = "\nann rather cy nobody"
        head = "ones ann\nothers cy"
        self.assertEqual(len(Book(head + line * 59)), 59)
        self.assertEqual(len(Book(head + line * 60)), 60)
        self.bad(head + line * 61, 63)
        self.bad(head + line * 70, 63)
        self.bad(head + line * 60 + "\n", 63)
        self.bad(head + line * 60 + "\nann rather nobody cy", 63)
        self.bad(head + line * 59 + "\nann rather nobody cy\nann", 62)

    def test_the_words_that_are_no_names_are_no_choices(self):
        for word in ("ones", "others", "rather"):
            self.bad_line(3, "ann rather cy " + word)
        self.assertEqual(Book("ones ann\nothers cy\nann rather nobody cy").sayings, (("ann", ("", "cy")),))

    def round(self, *sayings):
        """The last one of these sayings is the first one that may not stand."""
        head = "ones a b\nothers w x y z"
        Book("\n".join((head,) + sayings[:-1]))
        self.bad("\n".join((head,) + sayings), 2 + len(sayings))
        self.bad("\n".join((head,) + sayings + ("a",)), 2 + len(sayings))

    def test_sayings_that_go_round(self):
        self.round("a rather x y", "a rather y x")
        self.round("a rather x nobody", "a rather nobody x")
        self.round("w rather a b", "w rather b a")
        self.round("a rather w x", "a rather x y", "a rather y w")
        self.round("a rather w x", "a rather y z", "a rather x y", "a rather z nobody", "a rather nobody w")
        self.round("a rather y z", "a rather x y", "a rather w x", "a rather z w")
        self.round("a rather w x y z", "a rather z x")
        self.round("a rather w x y z", "a rather nobody z w")
        self.round("a rather w nobody y", "a rather z y w x")
        self.round("a rather w x", "b rather x w", "a rather x w")
        self.round("a rather w x nobody", "a rather y nobody", "a rather nobody z", "a rather z y")

    def test_sayings_that_go_round_by_themselves(self):
        self.bad_line(3, "ann rather cy dan cy")
        self.bad_line(3, "ann rather nobody cy nobody")

    def test_sayings_that_only_look_so(self):
        for lines in (("a rather x y", "b rather y x"), ("a rather x y nobody", "b rather nobody x y", "a rather x nobody"),
                      ("w rather a b", "x rather b a"), ("a rather w x", "a rather y x", "a rather w z", "a rather y z"),
                      ("a rather w x y", "a rather w y", "a rather w x y"), ("a rather x nobody", "x rather nobody a"),
                      ("a rather w x", "b rather x y", "a rather y z", "b rather z w")):
            self.assertEqual(len(Book("\n".join(("ones a b\nothers w x y z",) + lines))), len(lines))

    def same_as_found_another_way(self, text):
        number = first_wrong(text)
        if number is None:
            self.assertEqual(Book(text).text, text)
        else:
            self.bad(text, number)
        return number

    def test_each_sign_too_many_too_few_or_otherwise(self):
        text = "ones ann bea\nothers cy dan\nann rather cy dan nobody\nann rather cy nobody\ndan rather bea ann"
        found = set()
        for at in range(len(text) + 1):
            for sign in ("", " ", "\n", "a", "n", "s", "A", "1", "-", ".", "_"):
                found.add(self.same_as_found_another_way(text[:at] + sign + text[at:]))
                found.add(self.same_as_found_another_way(text[:at] + sign + text[at + 1:]))
        self.assertEqual(found, {None, 1, 2, 3, 4, 5, 6})

    def test_each_word_too_many_too_few_or_otherwise(self):
        words = re.split("( |\n)", "ones a b\nothers x y\na rather x y nobody\nx rather a b\na rather x nobody")
        found = set()
        for at in range(0, len(words), 2):
            for word in ("a", "b", "x", "y", "nobody", "rather", "ones", "others", "c", ""):
                found.add(self.same_as_found_another_way("".join(words[:at] + [word] + words[at + 1:])))
                found.add(self.same_as_found_another_way("".join(words[:at] + [word, " "] + words[at:])))
            found.add(self.same_as_found_another_way("".join(words[:at] + words[at + 2:])))
        self.assertEqual(found, {None, 1, 2, 3, 4, 5})

    def test_each_line_missing_twice_or_exchanged(self):
        lines = LINES + ["dan rather bea ann", "ann rather cy nobody", "bea rather nobody cy"]
        for at in range(len(lines)):
            self.same_as_found_another_way("\n".join(lines[:at]))
            self.same_as_found_another_way("\n".join(lines[:at] + lines[at + 1:]))
            self.same_as_found_another_way("\n".join(lines[:at] + lines[at:at + 1] + lines[at:]))
            self.same_as_found_another_way("\n".join(lines[:at] + lines[at:at + 2][::-1] + lines[at + 2:]))

    def test_equal_calls(self):
        self.assertEqual(Book(TEXT), Book(TEXT))
        self.assertEqual(Book(text=TEXT).text, TEXT)


if __name__ == "__main__":
    unittest.main()
