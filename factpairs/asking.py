"""The fewest asks that bring a surely steady pairing."""

from factpairs.errors import TooManyOpen
from factpairs.questions import Questions
from factpairs.values import is_integer

MOST_OPEN = 8


def asks(book):
    """(number, plan): the least number of asks that a plan needs, and such a plan: TooManyOpen."""
    questions = few_questions(book)
    number = questions.least()
    return number, questions.plan(0, number)


def shows_asks(book, value):
    """Whether any value is such a result as is told for asks: TooManyOpen."""
    questions = few_questions(book)
    if not isinstance(value, tuple) or len(value) != 2 or not is_integer(value[0]):
        return False
    # No plan needs fewer asks than the least number: so one that needs no more needs just so many.
    return value[0] == questions.least() and questions.is_plan(value[1], 0, value[0])


def few_questions(book):
    """The Questions of a book: TooManyOpen if there are more than can be asked."""
    questions = Questions(book)
    if len(questions.rows) > MOST_OPEN:
        raise TooManyOpen(MOST_OPEN)
    return questions
