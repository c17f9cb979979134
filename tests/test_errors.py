"""Points 2 and 14: the errors."""

import unittest

from factpairs import errors
from factpairs.books import Book
from factpairs.errors import PairError
from tests.helpers import TEXT, any_values, kinds, nested

NAMES = """BadBook NoPerson BadChoice BadRow Round Full NoSaying OtherPeople BadLists BadPairs NoList OtherBook
NotSure BadBound BadBarred BadSide NoneSure TooMany TooManyOpen BadOffers BadHopes BadPair Taken NotTogether
NothingToUndo NothingToRedo NoTrial BadJournal BadLine""".split()


class ErrorsTest(unittest.TestCase):

    def test_there_are_29_beside_their_base(self):
        found = [name for name, thing in vars(errors).items() if isinstance(thing, type)]
        self.assertEqual(sorted(found), sorted(NAMES + ["PairError"]))
        self.assertEqual(len(NAMES), 29)

    def test_the_base_is_a_value_error(self):
        self.assertEqual(PairError.__bases__, (ValueError,))

    def test_each_stands_directly_below_the_base(self):
        for name in NAMES:
            with self.subTest(name):
                self.assertEqual(getattr(errors, name).__bases__, (PairError,))

    def test_none_stands_below_another_one(self):
        for name in NAMES:
            for other in NAMES:
                below = issubclass(getattr(errors, name), getattr(errors, other))
                self.assertEqual(below, name == other, (name, other))

    def test_each_is_defined_in_its_file(self):
        for name in NAMES + ["PairError"]:
            self.assertEqual(getattr(errors, name).__module__, "factpairs.errors")

    def test_each_keeps_the_very_value(self):
        values = any_values() + ["ann", "", (), (("ann", 3), ["cy"], {"a": (True, 1)}), Book(TEXT), nested("deep", 30)]
        for name in NAMES + ["PairError"]:
            for value in values:
                error = getattr(errors, name)(value)
                self.assertIs(error.value, value, name)

    def test_the_value_of_one_is_its_own(self):
        first, second = PairError([1]), PairError([2])
        self.assertEqual([first.value, second.value], [[1], [2]])

    def test_each_is_caught_by_its_name_its_base_and_as_a_value_error(self):
        for name in NAMES:
            for caught in (getattr(errors, name), PairError, ValueError):
                with self.subTest(name, caught=caught):
                    with self.assertRaises(caught) as held:
                        raise getattr(errors, name)((name, True))
                    self.assertEqual(kinds(held.exception.value), kinds((name, True)))

    def test_none_is_caught_by_the_name_of_another_one(self):
        for name in NAMES:
            others = tuple(getattr(errors, other) for other in NAMES if other != name)
            try:
                raise getattr(errors, name)(None)
            except others:
                self.fail(name)
            except PairError as error:
                self.assertIsNone(error.value)

    def test_each_takes_one_argument(self):
        for name in NAMES + ["PairError"]:
            with self.assertRaises(TypeError):
                getattr(errors, name)()
            with self.assertRaises(TypeError):
                getattr(errors, name)(1, 2)


if __name__ == "__main__":
    unittest.main()
