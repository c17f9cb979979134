"""Points 2 and 5: how_many and nth of persons with thirteen choices, against what is reckoned by hand."""

import random
import unittest

from factpairs.books import Book
from factpairs.errors import NoList
from factpairs.lists import how_many, is_list, nth
from tests.helpers import PairCase, kinds

CHOICES = tuple("bcdefghijklm") + ("",)
FACTORIALS = {10: 3628800, 11: 39916800, 12: 479001600, 13: 6227020800}


def book_of(*rows):
    """The Book of one person with thirteen choices who said these rows; the sign - is nobody."""
    lines = ["ones a", "others " + " ".join(CHOICES[:12])]
    return Book("\n".join(lines + ["a rather " + " ".join(sign.replace("-", "nobody") for sign in row) for row in rows]))


def listed(signs):
    """The list of these choices, a sign each; the sign - is nobody."""
    return tuple("" if sign == "-" else sign for sign in signs)


class ByHandTest(PairCase):

    def check(self, rows, many, lists):
        """So many lists keep the book of these rows; `lists` leads from some numbers to the lists with them."""
        book = book_of(*rows)
        self.assertEqual(kinds(how_many(book, "a")), kinds(many))
        for number, signs in lists.items():
            self.assertEqual(len(signs), 13)
            self.assertEqual(kinds(nth(book, "a", number)), kinds(listed(signs)), number)
        self.assertTrue({0, many - 1} <= set(lists))
        for number in (many, many + 1, -1, -many):
            self.refused(NoList, number, nth, book, "a", number)

    def test_nothing_said(self):
        self.check([], FACTORIALS[13], {
            0: "bcdefghijklm-", 1: "bcdefghijkl-m", 2: "bcdefghijkml-", 6: "bcdefghijlkm-",
            FACTORIALS[12] - 1: "b-mlkjihgfedc", FACTORIALS[12]: "cbdefghijklm-", FACTORIALS[12] + FACTORIALS[11]: "cdbefghijklm-",
            3 * FACTORIALS[12] + 2 * FACTORIALS[10]: "ebfcdghijklm-",
            3113510400: "hibcdefgjklm-", 12 * FACTORIALS[12]: "-bcdefghijklm", 6227020799: "-mlkjihgfedcb"})

    def test_one_row_of_two(self):
        self.check(["mb"], 3113510400, {
            0: "cdefghijklmb-", FACTORIALS[12] // 2 - 1: "c-mlkjihgfedb", FACTORIALS[12] // 2: "dcefghijklmb-",
            10 * FACTORIALS[12] // 2: "mbcdefghijkl-", 11 * FACTORIALS[12] // 2: "mhbcdefgijkl-",
            12 * FACTORIALS[12] // 2: "-cdefghijklmb", 3113510399: "-mlkjihgfedcb"})

    def test_one_row_of_six(self):
        self.check(["mlkjih"], 8648640, {
            0: "bcdefgmlkjih-", 665279: "b-mlkjihgfedc", 665280: "cbdefgmlkjih-", 6 * 665280: "mbcdefglkjih-",
            8648639: "-mlkjihgfedcb"})

    def test_one_row_of_all_thirteen(self):
        self.check(["hgfe-dcbijklm"], 1, {0: "hgfe-dcbijklm"})

    def test_two_rows_of_unlike_choices(self):
        self.check(["cb", "mlk"], 518918400, {
            0: "cbdefghijmlk-", FACTORIALS[11] // 6: "cdbefghijmlk-", FACTORIALS[12] // 6: "dcbefghijmlk-",
            518918399: "-mlkjihgfedcb"})
        self.check(["gfedcb", "mlkjih"], 12012, {
            0: "gfedcbmlkjih-", 5543: "g-mlkjihfedcb", 5544: "mgfedcblkjih-", 11088: "-gfedcbmlkjih", 12011: "-mlkjihgfedcb"})
        self.check(["gfedcb", "-mlkjih"], 1716, {0: "gfedcb-mlkjih", 792: "-gfedcbmlkjih", 1715: "-mlkjihgfedcb"})

    def test_rows_that_share_choices(self):
        self.check(["cb", "db"], FACTORIALS[13] // 3, {
            0: "cdbefghijklm-", FACTORIALS[12] // 2: "dcbefghijklm-", FACTORIALS[12]: "ecdbfghijklm-",
            FACTORIALS[13] // 3 - 1: "-mlkjihgfedcb"})
        self.check(["bc", "bd"], FACTORIALS[13] // 3, {
            0: "bcdefghijklm-", FACTORIALS[12]: "ebcdfghijklm-", FACTORIALS[13] // 3 - 1: "-mlkjihgfebdc"})
        self.check(["dcb", "fce"], 207567360, {
            0: "dfcbeghijklm-", FACTORIALS[11]: "fdcbeghijklm-", 2 * FACTORIALS[11]: "gdfcbehijklm-", 207567359: "-mlkjihgfdceb"})
        self.check(["cb", "db", "de"], 1297296000, {
            0: "cdbefghijklm-", FACTORIALS[12] // 3: "dcbefghijklm-", FACTORIALS[12] // 3 + FACTORIALS[12] // 2: "fcdbeghijklm-",
            1297295999: "-mlkjihgfdecb"})

    def test_one_choice_ahead_of_all_others(self):
        self.check(["h" + sign for sign in "bcdefgijklm-"], FACTORIALS[12], {
            0: "hbcdefgijklm-", FACTORIALS[11]: "hcbdefgijklm-", 11 * FACTORIALS[11]: "h-bcdefgijklm", FACTORIALS[12] - 1: "h-mlkjigfedcb"})
        self.check(["-" + sign for sign in "bcdefghijklm"], FACTORIALS[12], {
            0: "-bcdefghijklm", FACTORIALS[11]: "-cbdefghijklm", FACTORIALS[12] - 1: "-mlkjihgfedcb"})

    def test_one_choice_behind_all_others(self):
        self.check([sign + "h" for sign in "bcdefgijklm-"], FACTORIALS[12], {
            0: "bcdefgijklm-h", FACTORIALS[11]: "cbdefgijklm-h", FACTORIALS[12] - 1: "-mlkjigfedcbh"})
        self.check([sign + "-" for sign in "bcdefghijklm"], FACTORIALS[12], {
            0: "bcdefghijklm-", FACTORIALS[11]: "cbdefghijklm-", FACTORIALS[12] - 1: "mlkjihgfedcb-"})

    def test_one_half_ahead_of_the_other(self):
        self.check([first + second for first in "bcdefg" for second in "hijklm"][:36], 720 * 720 * 13, {
            0: "bcdefghijklm-", 1: "bcdefghijkl-m", 720 * 720 * 13 - 1: "-gfedcbmlkjih"})


class AgainstMasksTest(PairCase):

    def ways(self, ahead):
        """In how many sequences the others can follow those of each mask that can stand first."""
        found = {(1 << 13) - 1: 1}
        for stood in range((1 << 13) - 2, -1, -1):
            found[stood] = sum(found[stood | 1 << at] for at in range(13)
                               if not stood >> at & 1 and ahead[at] & stood == ahead[at])
        return found

    def test_by_chance(self):
        for seed in range(16):
            chance = random.Random(seed)
            ranked = list(range(13))
            chance.shuffle(ranked)
            half, book = chance.randint(1, 12), book_of()
            for _ in range(chance.randint(1, 40)):
                # Some rows go from one part of all choices to the other, some between any two.
                between = (chance.randrange(half), chance.randrange(half, 13))
                first, second = between if seed % 2 else sorted(chance.sample(range(13), 2))
                book = book.said("a", (CHOICES[ranked[first]], CHOICES[ranked[second]]))
            ahead = [sum(1 << CHOICES.index(choice) for choice in book.ahead("a", second)) for second in CHOICES]
            found = self.ways(ahead)
            self.assertEqual(how_many(book, "a"), found[0])
            for number in {0, found[0] - 1, found[0] // 2, chance.randrange(found[0])}:
                row = nth(book, "a", number)
                self.assertTrue(is_list(book, "a", row))
                self.assertEqual(self.number_of(ahead, found, [CHOICES.index(choice) for choice in row]), number)
            self.refused(NoList, many := found[0], nth, book, "a", many)

    def number_of(self, ahead, found, places):
        """How many lists stand ahead of this one."""
        stood = number = 0
        for place in places:
            number += sum(found[stood | 1 << at] for at in range(place)
                          if not stood >> at & 1 and ahead[at] & stood == ahead[at])
            stood |= 1 << place
        return number


if __name__ == "__main__":
    unittest.main()
