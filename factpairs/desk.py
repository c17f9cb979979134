"""A desk: a hall that lines lead."""

from factpairs.books import spot_of
from factpairs.deeds import deed_in, do_deed
from factpairs.errors import BadChoice, BadLine
from factpairs.journals import read_journal
from factpairs.striking import steadied
from factpairs.texts import choice_of, word_of


def answer_undo(hall, told):
    """Takes a deed back."""
    hall.undo()
    return "ok"


def answer_redo(hall, told):
    """Does a deed again."""
    hall.redo()
    return "ok"


def answer_who(hall, told):
    """Whom a person has."""
    return word_of(hall[told[0]])


def answer_rather(hall, told):
    """Which of two choices a person surely would rather have: NoPerson, BadChoice."""
    person, first, second = told
    for choice in (first, second):
        spot_of(hall.book, person, choice)
    # "open" would tell that more sayings can decide it, which they never do for one choice.
    if first == second:
        raise BadChoice(second)
    if (person, first, second) in hall.book:
        return "first"
    return "second" if (person, second, first) in hall.book else "open"


def answer_word(hall, told):
    """Whether the pairing now is sure, open or never steady."""
    return hall.word()


def answer_pairs(hall, told):
    """Who is together now."""
    pairs = hall.pairing.pairs
    return ", ".join([" ".join(pair) for pair in pairs]) if pairs else "-"


def answer_sure(hall, told):
    """How many pairs each surely steady pairing has."""
    found = steadied(hall.book)
    return str(len(found[1])) if found[0] == "pairing" else "none"


# Of each line that is no deed, by its word, how many words follow, and what is answered.
FOLLOWING = {"undo": 0, "redo": 0, "who": 1, "rather": 3, "word": 0, "pairs": 0, "sure": 0}
ANSWERS = {"undo": answer_undo, "redo": answer_redo, "who": answer_who, "rather": answer_rather, "word": answer_word,
           "pairs": answer_pairs, "sure": answer_sure}


class Desk:
    """A hall, read from a journal, that lines lead."""

    def __init__(self, text):
        self.hall = read_journal(text)

    def say(self, line):
        """What a line is answered: BadLine, and what the hall and the functions raise."""
        if not isinstance(line, str) or "\n" in line:
            raise BadLine(line)
        deed = deed_in(line)
        if deed is not None:
            do_deed(self.hall, deed)
            return str(len(self.hall)) if deed[0] == "settle" else "ok"
        word, *words = line.split(" ")
        if "" in words or word not in FOLLOWING or len(words) != FOLLOWING[word]:
            raise BadLine(line)
        answer = ANSWERS[word]
        return answer(self.hall, [choice_of(each) for each in words])
