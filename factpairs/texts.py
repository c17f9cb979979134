"""The text of a book, line by line."""

from factpairs.errors import BadBook
from factpairs.orders import empty_order, with_row

LETTERS = "abcdefghijklmnopqrstuvwxyz"
NO_NAMES = ("nobody", "ones", "others", "rather")
MOST_LETTERS = 8
MOST_NAMES = 12
MOST_SAYINGS = 60


def is_name(word):
    """Whether a string is a name."""
    if not 1 <= len(word) <= MOST_LETTERS or word in NO_NAMES:
        return False
    return all([letter in LETTERS for letter in word])


def has_twice(words):
    """Whether some string stands twice among these."""
    return len(set(words)) < len(words)


def is_row(value, choices):
    """Whether any value is a tuple of two or more of these choices, none twice."""
    if not isinstance(value, tuple) or len(value) < 2:
        return False
    return all([choice in choices for choice in value]) and not has_twice(value)


def spots_of(row, choices):
    """At which places these choices stand among all choices of the person."""
    return [choices.index(choice) for choice in row]


def lines_of(text):
    """The lines of a text: BadBook(0) for what is no string."""
    if not isinstance(text, str):
        raise BadBook(0)
    return text.split("\n")


def read_side(lines, at, title, taken):
    """The names that the line at `at` tells behind its title, none of them taken: BadBook."""
    if at == len(lines):
        raise BadBook(at + 1)
    first, *names = lines[at].split(" ")
    if first != title or not 1 <= len(names) <= MOST_NAMES:
        raise BadBook(at + 1)
    if not all([is_name(name) for name in names]) or has_twice([*taken, *names]):
        raise BadBook(at + 1)
    return tuple(names)


def choices_of(ones, others):
    """A dict of the choices of each person."""
    choices = {one: (*others, "") for one in ones}
    for other in others:
        choices[other] = (*ones, "")
    return choices


def read_saying(line, choices):
    """The saying (person, row) of a line, or None if it has no such form."""
    person, *words = line.split(" ")
    # An empty word, as two blanks leave it, must not be taken for nobody.
    if person not in choices or words[:1] != ["rather"] or "" in words:
        return None
    row = tuple([choice_of(word) for word in words[1:]])
    return (person, row) if is_row(row, choices[person]) else None


def read_sayings(lines, start, choices):
    """The sayings of all lines from `start` on, and a dict of the orders that they leave: BadBook."""
    sayings = []
    orders = {person: empty_order(len(choices[person])) for person in choices}
    for at, line in enumerate(lines[start:]):
        saying = read_saying(line, choices)
        if saying is None or at == MOST_SAYINGS:
            raise BadBook(start + at + 1)
        person, row = saying
        order = with_row(orders[person], spots_of(row, choices[person]))
        if order is None:
            raise BadBook(start + at + 1)
        sayings.append(saying)
        orders[person] = order
    return tuple(sayings), orders


def choice_of(word):
    """The choice that a word of a text means."""
    return "" if word == "nobody" else word


def word_of(choice):
    """The word that means a choice in texts."""
    return "nobody" if choice == "" else choice


def saying_line(person, row):
    """The line of a saying."""
    return " ".join([person, "rather", *[word_of(choice) for choice in row]])


def text_of(ones, others, sayings):
    """The text of the book of these people and sayings."""
    head = [" ".join(["ones", *ones]), " ".join(["others", *others])]
    return "\n".join([*head, *[saying_line(person, row) for person, row in sayings]])
