"""Point 12: the texts by which rows are reached, and which tell them apart."""

import copy
import random
import unittest

from rulescan.cutting import walk
from rulescan.errors import NoRow, RuleError
from rulescan.leasts import least
from rulescan.showing import apart, reach
from rulescan.tables import table
from tests.helping import (ALL_SIGNS, EMPTY, all_texts, chain, either, loop, many, maybe, one, row, row_behind,
                           some_pattern, some_table, soon, spelt, told_behind)

GREAT = 10 ** 9


def first_to(made, number, texts):
    """The first of the texts that leads to a row, or None."""
    for text in texts:
        if row_behind(made, 0, text) == number:
            return text
    return None


def first_between(made, one_row, other, texts):
    """The first of the texts behind which unlike is told from two rows, or None."""
    for text in texts:
        if told_behind(made, one_row, text) != told_behind(made, other, text):
            return text
    return None


class Refusing(unittest.TestCase):
    def check_refused(self, call, *arguments):
        for above in (NoRow, RuleError, ValueError):
            with self.assertRaises(above) as caught:
                call(*arguments)
            self.assertIs(type(caught.exception), NoRow)


class Reach(Refusing):
    def test_row_nought_by_the_empty_text(self):
        for made in (("", [(None, [])]), loop([1, 2]), loop([None]), chain([None, 1])):
            self.assertEqual(reach(made, 0), "")

    def test_the_shortest_text(self):
        made = ("ab", [(None, [1, 3]), (None, [2, None]), (None, [3, None]), (1, [None, 0])])
        self.assertEqual([reach(made, number) for number in range(4)], ["", "a", "aa", "b"])

    def test_of_equally_long_ones_the_first(self):
        made = ("ab", [(None, [1, 2]), (None, [None, 3]), (None, [3, 4]), (1, [4, 4]), (2, [None, None])])
        self.assertEqual([reach(made, number) for number in range(5)], ["", "a", "b", "ab", "bb"])
        self.assertEqual(reach(("ab", [(None, [1, 1]), (1, [None, None])]), 1), "a")

    def test_by_the_places_of_the_signs_not_by_pythons_order(self):
        made = ("ba", [(None, [1, 2]), (None, [None, 3]), (None, [3, 4]), (1, [4, 4]), (2, [None, None])])
        self.assertEqual([reach(made, number) for number in range(5)], ["", "b", "a", "ba", "aa"])
        self.assertEqual(reach(("za", [(None, [1, 1]), (1, [None, None])]), 1), "z")
        self.assertEqual(reach(("~ \n", [(None, [None, 1, 1]), (1, [None] * 3)]), 1), " ")

    def test_sign_by_sign_from_the_first_on(self):
        # "ac" and "ba" lead there: what counts is the first sign, not the last.
        made = ("abc", [(None, [1, 2, None]), (None, [None, None, 3]), (None, [3, None, None]), (1, [None] * 3)])
        self.assertEqual(reach(made, 3), "ac")

    def test_rows_of_which_nothing_is_told_and_idle_ones(self):
        made = ("a", [(None, [1]), (None, [2]), (None, [2])])
        self.assertEqual([reach(made, number) for number in range(3)], ["", "a", "aa"])

    def test_no_such_row(self):
        for made in (("", [(None, [])]), chain([None, 1]), loop([1] * 64)):
            for number in (-1, len(made[1]), len(made[1]) + 1, -len(made[1]), GREAT, -GREAT):
                self.check_refused(reach, made, number)
        self.assertEqual(reach(loop([1] * 64), 63), "a" * 63)

    def test_a_row_that_no_text_leads_to(self):
        made = ("a", [(None, [0]), (1, [2]), (2, [1])])
        self.check_refused(reach, made, 1)
        self.check_refused(reach, made, 2)
        self.check_refused(reach, ("", [(None, []), (1, [])]), 1)
        self.check_refused(reach, ("ab", [(None, [None, None]), (1, [0, 0])]), 1)

    def test_made_by_chance(self):
        chance = random.Random(15)
        for signs in ("ba", "a", "cab"):
            for _ in range(60):
                made = some_table(chance, signs, 5, [None, 0, 1])
                texts = all_texts(signs, 5)
                for number in range(len(made[1])):
                    text = first_to(made, number, texts)
                    if text is None:
                        self.check_refused(reach, made, number)
                    else:
                        self.assertEqual(reach(made, number), text, (made, number))

    def test_sixty_four_rows(self):
        with soon():
            self.assertEqual(reach(chain([None] * 64, "abcd"), 63), "a" * 63)
            self.assertEqual(reach(loop([1] * 64, "ba"), 40), "b" * 40)


class Apart(Refusing):
    def test_the_empty_text_where_unlike_is_told_of_the_rows(self):
        made = ("a", [(None, [1]), (0, [2]), (1, [0])])
        for one_row, other in ((0, 1), (1, 0), (1, 2), (0, 2)):
            self.assertEqual(apart(made, one_row, other), "")
        self.assertEqual(apart(chain([GREAT, 1]), 0, 1), "")

    def test_the_shortest_text(self):
        made = ("ab", [(None, [2, 3]), (None, [2, 2]), (None, [3, None]), (1, [None, None])])
        self.assertEqual(apart(made, 0, 1), "b")
        self.assertEqual(apart(made, 0, 2), "a")
        self.assertEqual(apart(made, 1, 2), "a")

    def test_of_equally_long_ones_the_first(self):
        made = ("abc", [(None, [2, 3, 2]), (None, [2, 2, 3]), (None, [None] * 3), (1, [None] * 3)])
        self.assertEqual(apart(made, 0, 1), "b")
        made = ("ab", [(None, [2, 3]), (None, [3, 2]), (None, [None, 4]), (None, [4, None]), (1, [None, None])])
        self.assertEqual(apart(made, 0, 1), "aa")

    def test_by_the_places_of_the_signs_not_by_pythons_order(self):
        made = ("cba", [(None, [2, 3, 2]), (None, [2, 2, 3]), (None, [None] * 3), (1, [None] * 3)])
        self.assertEqual(apart(made, 0, 1), "b")
        made = ("ba", [(None, [2, 3]), (None, [3, 2]), (None, [None, 4]), (None, [4, None]), (1, [None, None])])
        self.assertEqual(apart(made, 0, 1), "bb")

    def test_one_leads_on_and_the_other_nowhere(self):
        made = ("ab", [(None, [1, None]), (None, [None, 2]), (None, [3, None]), (1, [None, None])])
        self.assertEqual(apart(made, 0, 1), "ba")
        self.assertEqual(apart(made, 1, 0), "ba")
        self.assertEqual(apart(made, 0, 2), "a")
        self.assertEqual(apart(made, 1, 2), "a")
        self.assertEqual(apart(chain([1, 1, 1, 1]), 0, 1), "aaa")

    def test_from_nowhere_it_goes_on_to_where_the_other_leads(self):
        self.assertEqual(apart(chain([None] * 63 + [1]), 0, 1), "a" * 62)
        self.assertEqual(apart(("a", [(None, [None]), (None, [2]), (None, [3]), (5, [None])]), 0, 1), "aa")

    def test_none_for_a_row_and_itself(self):
        for made in (("", [(None, [])]), ("", [(4, [])]), loop([1, 2, 3], "ab"), chain([None, 1, 2])):
            for number in range(len(made[1])):
                self.assertIsNone(apart(made, number, number))

    def test_none_for_rows_that_can_be_made_one(self):
        self.assertIsNone(apart(loop([1, 1]), 0, 1))
        self.assertIsNone(apart(loop([1, 2, 1, 2]), 1, 3))
        self.assertIsNone(apart(("ab", [(5, [1, None]), (5, [0, 2]), (None, [2, None])]), 0, 1))
        self.assertIsNone(apart(("", [(3, []), (3, [])]), 0, 1))

    def test_none_for_idle_rows(self):
        self.assertIsNone(apart(("a", [(None, [1]), (None, [None])]), 0, 1))
        self.assertIsNone(apart(("a", [(None, [0]), (None, [None])]), 1, 0))

    def test_rows_that_no_text_leads_to(self):
        made = ("a", [(None, [None]), (None, [3]), (None, [None]), (1, [None])])
        self.assertEqual(apart(made, 0, 3), "")
        self.assertEqual(apart(made, 1, 2), "a")
        self.assertIsNone(apart(made, 0, 2))

    def test_nought_is_told_not_none(self):
        self.assertEqual(apart(("a", [(None, [1]), (0, [None])]), 0, 1), "")
        self.assertEqual(apart(chain([0, 0]), 0, 1), "a")

    def test_no_such_row(self):
        for made in (("", [(None, [])]), chain([None, 1]), loop([1] * 64)):
            for number in (-1, len(made[1]), -len(made[1]), GREAT, -GREAT):
                self.check_refused(apart, made, number, 0)
                self.check_refused(apart, made, 0, number)
                self.check_refused(apart, made, number, number)

    def test_made_by_chance(self):
        chance = random.Random(16)
        for signs, most in (("ba", 5), ("a", 7), ("cab", 4)):
            for _ in range(60):
                made = some_table(chance, signs, most, [None, None, 1])
                texts = all_texts(signs, most)
                for one_row in range(len(made[1])):
                    for other in range(len(made[1])):
                        text = first_between(made, one_row, other, texts)
                        self.assertEqual(apart(made, one_row, other), text, (made, one_row, other))

    def test_sixty_four_rows(self):
        with soon():
            self.assertEqual(apart(loop([None] * 63 + [1]), 0, 1), "a" * 62)
            self.assertIsNone(apart(loop([1, 2] * 32, "ab"), 0, 62))
            # Two rings of unlike lengths: each pair of their rows is come to.
            rings = [(1, [(at + 1) % 31, at]) for at in range(31)]
            rings += [(1, [31 + (at + 1) % 33, 31 + at]) for at in range(33)]
            self.assertIsNone(apart(("ab", rings), 0, 31))
            rings[30] = (1, [0, None])
            self.assertEqual(apart(("ab", rings), 0, 31), "a" * 30 + "b")


class OfPatterns(unittest.TestCase):
    def check(self, made):
        """Each row is reached, and each two are told apart, by texts that are followed here."""
        rows = range(len(made[1]))
        for number in rows:
            text = reach(made, number)
            self.assertEqual(walk(made, text), number)
        for one_row in rows:
            for other in range(one_row):
                text = apart(made, one_row, other)
                self.assertEqual(apart(made, other, one_row), text)
                self.assertNotEqual(told_behind(made, one_row, text), told_behind(made, other, text))

    def test_words(self):
        letter = one("abcdefghijklmnopqrstuvwxyz")
        made = table([spelt("if"), spelt("else"), row(letter, many(letter)), row(one("01"), many(one("01"))), EMPTY])
        self.check(made)
        self.assertEqual([reach(made, number) for number in range(len(made[1]))],
                         ["", "0", "a", "e", "i", "el", "if", "els", "else"])
        self.assertEqual(apart(made, 2, 3), "lse")
        self.assertEqual(apart(made, 2, 4), "f")

    def test_each_kind(self):
        for pattern in (one("ab"), spelt("abc"), either(spelt("ab"), spelt("cb")), many(spelt("ab")),
                        maybe(one("a")), EMPTY):
            self.check(table([pattern]))

    def test_made_by_chance(self):
        chance = random.Random(17)
        for _ in range(80):
            patterns = [some_pattern(chance, "ab", 3) for _ in range(chance.randrange(1, 4))]
            try:
                made = table(patterns)
            except RuleError:
                continue
            self.check(made)

    def test_the_greatest(self):
        with soon():
            self.check(table([row(many(one("ab")), one("a"), *[one("ab")] * 4), row(*[one("c")] * 31)]))
        with soon():
            made = table([row(*[one(ALL_SIGNS)] * 60)])
            first = min(ALL_SIGNS)
            self.assertEqual(reach(made, 60), first * 60)
            self.assertEqual(apart(made, 0, 1), first * 59)
            self.check(made)

    def test_least_tables(self):
        chance = random.Random(18)
        for _ in range(40):
            self.check(least(some_table(chance, "abc", 20, [None, None, None, 1])))


class WhatIsHandedIn(unittest.TestCase):
    def test_it_stays_as_it_was(self):
        for made in (chain([None, 1, None, 2], "ab"), loop([1, 1]), ("", [(None, [])])):
            before = copy.deepcopy(made)
            for number in range(-1, 6):
                try:
                    reach(made, number)
                except NoRow:
                    pass
                try:
                    apart(made, 0, number)
                except NoRow:
                    pass
                self.assertEqual(made, before)


if __name__ == "__main__":
    unittest.main()
