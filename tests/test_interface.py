"""The interface: all that it lists stands in its file, and each error is raised where the document says so."""

import inspect
import unittest
from importlib import import_module

from factpairs import errors
from factpairs.asking import asks, shows_asks
from factpairs.books import Book
from factpairs.choosing import cheapest
from factpairs.desk import Desk
from factpairs.every import always, count, every, lonely, sometimes, steps
from factpairs.halls import Hall
from factpairs.journals import read_journal
from factpairs.lists import how_many, is_list, leaving, nth, usual
from factpairs.pairings import Pairing
from factpairs.speaking import bringing, spare
from factpairs.striking import shows_steadied, steadied, unstruck
from tests.helpers import TEXT, large, rings, side_by_side

# The modules, their functions with the parameters, "*" ahead of those that are passed by name alone.
FUNCTIONS = {
    "lists": ["is_list book person value", "are_lists book value", "how_many book person", "nth book person number",
              "leaving book lists pairs", "usual book lists"],
    "judging": ["judged pairing", "shows_judged pairing value"],
    "striking": ["unstruck book * bound barred", "steadied book * bound barred side",
                 "shows_steadied book value * bound barred side"],
    "every": ["always book", "sometimes book", "lonely book", "every book", "count book", "steps book"],
    "speaking": ["doubts pairing", "speakers pairing", "shows_speakers pairing value", "spare pairing", "bringing book person"],
    "asking": ["asks book", "shows_asks book value"],
    "choosing": ["cheapest book offers hopes"],
    "journals": ["journal hall", "read_journal text"],
}
# The classes, with what each is made of, their attributes, and their methods with the parameters.
CLASSES = {
    "books": ("Book", "text", "text ones others persons sayings",
              ["ahead person choice", "said person row", "unsaid number", "places person choice"]),
    "pairings": ("Pairing", "book pairs", "book pairs alone", ["on book"]),
    "halls": ("Hall", "book", "book pairing done",
              ["say person row", "unsay number", "unite one other", "part one other", "settle", "word", "undo", "redo", "trial",
               "keep", "tried look * keep", "copy"]),
    "desk": ("Desk", "text", "hall", ["say line"]),
}
DEFAULTS = {"bound": (), "barred": (), "side": "ones", "keep": False}


def parameters(call):
    """The parameters of a function, as the tables above tell them, but for self."""
    words, named = [], False
    for name, part in inspect.signature(call).parameters.items():
        if part.kind is part.KEYWORD_ONLY and not named:
            words.append("*")
            named = True
        assert part.kind in (part.KEYWORD_ONLY, part.POSITIONAL_OR_KEYWORD)
        if name != "self":
            words.append(name)
        if part.default is not part.empty:
            assert part.default == DEFAULTS[name] and part.default.__class__ is DEFAULTS[name].__class__
        else:
            assert name not in DEFAULTS
    return words


def made():
    """An object of each class."""
    book = Book(TEXT)
    return {"Book": book, "Pairing": Pairing(book, (("ann", "cy"),)), "Hall": Hall(book), "Desk": Desk(TEXT + "\nhall")}


class InterfaceTest(unittest.TestCase):

    def test_functions(self):
        for module, rows in FUNCTIONS.items():
            for row in rows:
                name, *words = row.split(" ")
                call = vars(import_module("factpairs." + module))[name]
                self.assertTrue(inspect.isfunction(call))
                self.assertEqual([call.__module__, call.__name__], ["factpairs." + module, name])
                self.assertEqual(parameters(call), words, name)

    def test_classes(self):
        for module, (name, words, attributes, methods) in CLASSES.items():
            thing = vars(import_module("factpairs." + module))[name]
            self.assertTrue(inspect.isclass(thing))
            self.assertEqual([thing.__module__, thing.__name__], ["factpairs." + module, name])
            self.assertEqual(parameters(thing), words.split(" "))
            for row in methods:
                method, *words = row.split(" ")
                self.assertTrue(inspect.isfunction(vars(thing)[method]), (name, method))
                self.assertEqual(parameters(vars(thing)[method]), words, (name, method))

    def test_attributes_are_set_when_an_object_is_created(self):
        for name, attributes, _ in [(row[0], row[2], row[3]) for row in CLASSES.values()]:
            for attribute in attributes.split(" "):
                self.assertIn(attribute, vars(made()[name]), name)

    def test_operators_and_the_like_stand_in_the_classes_themselves(self):
        for name, words in (("Book", "getitem len contains eq or and le invert"), ("Pairing", "getitem len contains eq or and le"),
                            ("Hall", "getitem len eq")):
            thing = made()[name].__class__
            for word in words.split(" "):
                self.assertIn(f"__{word}__", vars(thing), name)

    def test_the_package_itself_binds_no_names(self):
        package = import_module("factpairs")
        self.assertEqual([name for name in vars(package) if not name.startswith("__")
                          and not inspect.ismodule(vars(package)[name])], [])

    def test_by_name_alone(self):
        book, hall = rings(1), Hall(rings(1))
        for call in (lambda: unstruck(book, ()), lambda: steadied(book, (), ()), lambda: steadied(book, ()),
                     lambda: shows_steadied(book, (), ()), lambda: hall.tried(len, False)):
            with self.assertRaises(TypeError):
                call()
        self.assertEqual(steadied(book), steadied(book, bound=(), barred=(), side="ones"))
        self.assertEqual(unstruck(book), unstruck(book, bound=(), barred=()))
        self.assertTrue(shows_steadied(book, steadied(book)))
        self.assertFalse(shows_steadied(book, steadied(book, side="others")))


class RaisedTest(unittest.TestCase):

    def test_each_error_is_raised(self):
        book, ring = Book(TEXT), rings(1)
        pairing, hall = Pairing(book, (("ann", "cy"),)), Hall(book)
        hall.unite("ann", "cy")
        full = Book("ones a\nothers x\n" + "\n".join(["a rather x nobody"] * 60))
        offers = (("bea", ("dan", "cy"), 1),)
        lists = tuple(nth(book, person, 0) for person in book.persons)
        raised = {
            "BadBook": [lambda: Book("")],
            "NoPerson": [lambda: book["eve"], lambda: book.ahead("eve", ""), lambda: book.said("eve", ()),
                         lambda: book.places("eve", ""), lambda: is_list(book, "eve", ()), lambda: how_many(book, "eve"),
                         lambda: nth(book, "eve", 0), lambda: pairing["eve"], lambda: bringing(book, "eve"), lambda: hall["eve"],
                         lambda: hall.say("eve", ()), lambda: Desk(TEXT + "\nhall").say("who eve")],
            "BadChoice": [lambda: book.ahead("ann", "bea"), lambda: book.places("ann", None),
                          lambda: Desk(TEXT + "\nhall").say("rather ann cy bea")],
            "BadRow": [lambda: book.said("ann", ("cy",)), lambda: hall.say("ann", ("cy",))],
            "Round": [lambda: book.said("ann", ("dan", "cy")), lambda: hall.say("ann", ("dan", "cy")),
                      lambda: book | Book("ones ann bea\nothers cy dan\nann rather dan cy")],
            "Full": [lambda: full.said("a", ("x", "")), lambda: Hall(full).say("a", ("x", "")),
                     lambda: full | Book("ones a\nothers x\nx rather a nobody")],
            "NoSaying": [lambda: book.unsaid(7), lambda: hall.unsay(7)],
            "OtherPeople": [lambda: book | ring, lambda: book & ring, lambda: book <= ring, lambda: pairing.on(ring)],
            "BadLists": [lambda: leaving(book, (), ()), lambda: usual(book, ())],
            "BadPairs": [lambda: leaving(book, lists, None), lambda: Pairing(book, (("cy", "ann"),))],
            "NoList": [lambda: nth(book, "ann", 1)],
            "OtherBook": [lambda: pairing | Pairing(ring, ()), lambda: pairing & Pairing(ring, ()), lambda: pairing <= Pairing(ring, ())],
            "NotSure": [lambda: pairing | pairing, lambda: pairing & pairing, lambda: pairing <= pairing, lambda: spare(pairing)],
            "BadBound": [lambda: unstruck(book, bound=[]), lambda: steadied(book, bound=[]), lambda: shows_steadied(book, 0, bound=[])],
            "BadBarred": [lambda: unstruck(book, barred=[]), lambda: steadied(book, barred=[]), lambda: shows_steadied(book, 0, barred=[])],
            "BadSide": [lambda: steadied(book, side=1), lambda: shows_steadied(book, 0, side=None)],
            "NoneSure": [lambda call=call: call(book) for call in (always, sometimes, lonely, every, count, steps)] + [hall.settle],
            "TooMany": [lambda call=call: call(side_by_side((10, 7, 3))) for call in (every, count, steps)],
            "TooManyOpen": [lambda: asks(large()), lambda: shows_asks(large(), ())],
            "BadOffers": [lambda: cheapest(book, (), ())],
            "BadHopes": [lambda: cheapest(book, offers, ())],
            "BadPair": [lambda: hall.unite("ann", "bea"), lambda: hall.part("cy", "ann")],
            "Taken": [lambda: hall.unite("ann", "dan")],
            "NotTogether": [lambda: hall.part("bea", "dan")],
            "NothingToUndo": [lambda: Hall(book).undo()],
            "NothingToRedo": [lambda: hall.redo()],
            "NoTrial": [lambda: hall.keep()],
            "BadJournal": [lambda: read_journal(""), lambda: Desk("")],
            "BadLine": [lambda: Desk(TEXT + "\nhall").say("")],
        }
        named = {name for name, thing in vars(errors).items() if inspect.isclass(thing)} - {"PairError"}
        self.assertEqual(set(raised), named)
        self.assertEqual(len(raised), 29)
        for name, calls in raised.items():
            for call in calls:
                with self.assertRaises(errors.PairError) as held:
                    call()
                self.assertIs(held.exception.__class__, vars(errors)[name])
        self.assertEqual([hall.done, hall.pairing.pairs], [1, (("ann", "cy"),)])


if __name__ == "__main__":
    unittest.main()
