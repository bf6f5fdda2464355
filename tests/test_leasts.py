"""Point 9: the one least table of a table."""

import copy
import random
import unittest

from rulescan.leasts import least
from tests.helping import ALL_SIGNS, all_texts, chain, least_by_texts, loop, some_table, soon, told_behind

GREAT = 10 ** 9


class Leasts(unittest.TestCase):
    def check(self, made, rows):
        """The least table has these rows and the same signs; it is least itself, and made stays as it was."""
        before = copy.deepcopy(made)
        expected = (made[0], rows)
        self.assertEqual(least(made), expected)
        self.assertEqual(made, before)
        self.assertEqual(least(expected), expected)


class RowsThatAreLeftOut(Leasts):
    def test_rows_that_no_text_leads_to(self):
        self.check(("a", [(1, [None]), (2, [0])]), [(1, [None])])
        self.check(("a", [(None, [2]), (3, [1]), (5, [2])]), [(None, [1]), (5, [1])])
        self.check(("ab", [(1, [0, None]), (2, [2, 0]), (3, [1, 1])]), [(1, [0, None])])

    def test_idle_rows(self):
        self.check(("a", [(1, [1]), (None, [None])]), [(1, [None])])
        self.check(("a", [(1, [1]), (None, [1])]), [(1, [None])])
        self.check(("a", [(1, [1]), (None, [2]), (None, [1])]), [(1, [None])])
        self.check(("ab", [(None, [1, 2]), (None, [3, None]), (5, [1, 3]), (None, [3, 1])]),
                   [(None, [None, 1]), (5, [None, None])])

    def test_a_row_of_which_none_is_told_is_not_idle_if_a_number_is_told_behind_it(self):
        self.check(chain([None, None, None, 4]), [(None, [1]), (None, [2]), (None, [3]), (4, [None])])

    def test_row_nought_idle(self):
        self.check(("a", [(None, [None])]), [(None, [None])])
        self.check(("a", [(None, [0])]), [(None, [None])])
        self.check(("abc", [(None, [0, None, 0])]), [(None, [None, None, None])])
        self.check(loop([None] * 5, "ab"), [(None, [None, None])])
        self.check(("ab", [(None, [1, 0]), (None, [None, 0]), (3, [0, 1])]), [(None, [None, None])])

    def test_row_nought_is_not_idle_though_none_is_told_of_it(self):
        self.check(("ab", [(None, [0, 1]), (0, [0, None])]), [(None, [0, 1]), (0, [0, None])])

    def test_an_idle_row_beside_row_nought_with_no_way_to_it(self):
        self.check(("ab", [(2, [1, 0]), (None, [1, None])]), [(2, [None, 0])])

    def test_nought_is_told_not_none(self):
        self.check(("a", [(0, [1]), (None, [None])]), [(0, [None])])
        self.check(("a", [(None, [1]), (0, [None])]), [(None, [1]), (0, [None])])
        self.check(("a", [(None, [0]), (0, [None])]), [(None, [None])])


class RowsThatCanBeMadeOne(Leasts):
    def test_side_by_side(self):
        self.check(("ab", [(None, [1, 2]), (5, [None, None]), (5, [None, None])]), [(None, [1, 1]), (5, [None, None])])
        self.check(("ab", [(None, [1, 2]), (5, [1, None]), (5, [2, None])]), [(None, [1, 1]), (5, [1, None])])

    def test_with_row_nought(self):
        self.check(("a", [(5, [1]), (5, [0])]), [(5, [0])])
        self.check(("a", [(5, [1]), (5, [1])]), [(5, [0])])
        self.check(("ab", [(5, [1, None]), (None, [2, None]), (5, [1, 3]), (None, [None, 3])]),
                   [(5, [1, None]), (None, [0, None])])

    def test_in_loops(self):
        self.check(loop([1, 1, 1]), [(1, [0])])
        self.check(loop([None, 1] * 3), [(None, [1]), (1, [0])])
        self.check(loop([None, 1, 1] * 4), [(None, [1]), (1, [2]), (1, [0])])
        self.check(loop([None, 1, None, 2]), [(None, [1]), (1, [2]), (None, [3]), (2, [0])])

    def test_a_loop_beside_a_longer_one(self):
        rows = [(None, [1, 3]), (1, [2, None]), (2, [1, None]),
                (1, [4, None]), (2, [5, None]), (1, [6, None]), (2, [3, None])]
        self.check(("ab", rows), [(None, [1, 1]), (1, [2, None]), (2, [1, None])])

    def test_a_loop_and_the_way_to_it(self):
        self.check(("a", [(None, [1]), (1, [2]), (1, [3]), (1, [2])]), [(None, [1]), (1, [1])])
        self.check(("a", [(1, [1]), (2, [2]), (1, [3]), (2, [2])]), [(1, [1]), (2, [0])])

    def test_rows_behind_which_alike_is_told_until_far_on(self):
        self.check(chain([1] * 6), [(1, [1]), (1, [2]), (1, [3]), (1, [4]), (1, [5]), (1, [None])])
        self.check(loop([1, 1, 1, 1, 2]), [(1, [1]), (1, [2]), (1, [3]), (1, [4]), (2, [0])])

    def test_unlike_numbers_are_not_made_one(self):
        self.check(("ab", [(None, [1, 2]), (5, [None, None]), (6, [None, None])]),
                   [(None, [1, 2]), (5, [None, None]), (6, [None, None])])
        self.check(("ab", [(None, [1, 2]), (0, [None, None]), (GREAT, [None, None])]),
                   [(None, [1, 2]), (0, [None, None]), (GREAT, [None, None])])

    def test_an_idle_way_and_no_way_are_the_same(self):
        self.check(("ab", [(None, [1, 2]), (5, [3, None]), (5, [None, None]), (None, [3, 3])]),
                   [(None, [1, 1]), (5, [None, None])])

    def test_ways_by_unlike_signs_are_not_the_same(self):
        rows = [(None, [1, 2]), (5, [3, None]), (5, [None, 3]), (6, [None, None])]
        self.check(("ab", rows), rows)


class Numbering(Leasts):
    def test_in_the_order_in_which_rows_are_met(self):
        self.check(("ab", [(None, [2, 1]), (7, [None, None]), (8, [None, None])]),
                   [(None, [1, 2]), (8, [None, None]), (7, [None, None])])
        self.check(("ab", [(None, [3, 2]), (1, [None, None]), (2, [1, 3]), (3, [4, 1]), (4, [None, 2])]),
                   [(None, [1, 2]), (3, [3, 4]), (2, [4, 1]), (4, [None, 2]), (1, [None, None])])

    def test_row_by_row_not_along_each_way_to_its_end(self):
        self.check(("ab", [(None, [1, 3]), (1, [2, None]), (2, [None, None]), (3, [None, None])]),
                   [(None, [1, 2]), (1, [3, None]), (3, [None, None]), (2, [None, None])])

    def test_by_the_ways_order_not_pythons_order_of_the_signs(self):
        self.check(("ba", [(None, [1, 2]), (1, [None, None]), (2, [None, None])]),
                   [(None, [1, 2]), (1, [None, None]), (2, [None, None])])
        self.check(("ba", [(None, [2, 1]), (1, [None, None]), (2, [None, None])]),
                   [(None, [1, 2]), (2, [None, None]), (1, [None, None])])

    def test_idle_rows_that_are_met_take_no_number(self):
        self.check(("abc", [(None, [1, 2, 3]), (None, [1, 1, 1]), (4, [None] * 3), (5, [1, 2, 0])]),
                   [(None, [None, 1, 2]), (4, [None] * 3), (5, [None, 1, 0])])

    def test_rows_stay_in_their_places_though_their_numbers_told_do_not_rise(self):
        self.check(chain([9, 4, 4, 0]), [(9, [1]), (4, [2]), (4, [3]), (0, [None])])


class LeastTables(Leasts):
    def test_what_is_least_stays_as_it_is(self):
        for made in (("", [(None, [])]), ("", [(3, [])]), ("a", [(None, [None])]), ("a", [(3, [0])]),
                     ("ba", [(None, [1, 0]), (0, [None, 1])]), chain(list(range(64))), loop(list(range(64))),
                     chain([None] * 63 + [1]), loop([None] * 63 + [1], "ab")):
            self.check(made, made[1])

    def test_no_signs(self):
        self.check(("", [(None, []), (4, [])]), [(None, [])])
        self.check(("", [(4, []), (4, [])]), [(4, [])])

    def test_two_tables_behind_which_the_same_is_told(self):
        even = [("a", [(0, [1]), (None, [0])]), loop([0, None] * 3), loop([0, None] * 32),
                ("a", [(0, [3]), (5, [0]), (0, [3]), (None, [4]), (0, [3])])]
        for made in even:
            self.assertEqual(least(made), even[0])

    def test_signs_stay_even_if_none_leads_anywhere(self):
        self.check(("zya", [(1, [1, 1, None]), (None, [1, None, None])]), [(1, [None, None, None])])

    def test_tables_made_by_chance(self):
        chance = random.Random(9)
        for signs, most, numbers in (("ba", 6, [None, 1]), ("a", 7, [None, None, 0, 1]), ("abc", 4, [None, 0, GREAT]),
                                     ("ab", 5, [None]), ("ab", 6, [3, 3, 3, 4])):
            for _ in range(80):
                made = some_table(chance, signs, most, numbers)
                self.check(made, least_by_texts(made)[1])

    def test_the_same_is_told_behind_every_text(self):
        chance = random.Random(10)
        texts = all_texts("abc", 5)
        for _ in range(60):
            made = some_table(chance, "ab", 9, [None, None, None, 0, 1])
            made_least = least(made)
            for text in texts:
                self.assertEqual(told_behind(made_least, 0, text), told_behind(made, 0, text), (made, text))

    def test_the_order_of_the_rows_that_are_handed_in_changes_nothing(self):
        chance = random.Random(11)
        for _ in range(100):
            signs, rows = some_table(chance, "abcd", 20, [None, None, 0, 1])
            order = [0] + chance.sample(range(1, len(rows)), len(rows) - 1)
            place = {row: at for at, row in enumerate(order)} | {None: None}
            mixed = [(rows[row][0], [place[way] for way in rows[row][1]]) for row in order]
            self.assertEqual(least((signs, mixed)), least((signs, rows)))


class TheGreatestTables(Leasts):
    def test_sixty_four_rows(self):
        with soon():
            self.check(chain([None] * 64), [(None, [None])])
            self.check(loop([3] * 64, "abcd"), [(3, [0] * 4)])
            self.check(loop([3, 3, 4, 4] * 16, "abcd"), [(3, [1] * 4), (3, [2] * 4), (4, [3] * 4), (4, [0] * 4)])
            self.check(("a", [(None, [63])] + [(at, [at - 1]) for at in range(1, 64)]),
                       [(None, [1])] + [(64 - at, [(at + 1) % 64]) for at in range(1, 64)])

    def test_forty_signs_and_all_signs(self):
        for signs in (ALL_SIGNS[:40], ALL_SIGNS):
            with soon():
                made = loop([1] * 63 + [2], signs)
                self.check(made, made[1])
                self.check(loop([1, 2] * 32, signs), [(1, [1] * len(signs)), (2, [0] * len(signs))])


class TheAnswer(unittest.TestCase):
    def test_its_kinds(self):
        made = least(("ab", [(None, [1, None]), (3, [0, 1])]))
        self.assertIs(type(made), tuple)
        signs, rows = made
        self.assertIs(type(signs), str)
        self.assertIs(type(rows), list)
        for row in rows:
            self.assertIs(type(row), tuple)
            self.assertEqual(len(row), 2)
            self.assertIs(type(row[1]), list)

    def test_its_lists_are_new_and_each_row_has_its_own(self):
        ways = [0, 1]
        for rows in ([(1, [0, 1]), (2, [0, 1])], [(1, ways), (2, ways)], [(1, ways), (1, ways)]):
            made = ("ab", rows)
            before = copy.deepcopy(made)
            answer = least(made)
            again = least(made)
            lists = [rows, *[ways for _, ways in rows]]
            for one in (answer, again):
                lists.append(one[1])
                lists.extend(one_ways for _, one_ways in one[1])
            new = lists[len(rows) + 1:]
            self.assertEqual(len({id(some) for some in new}), len(new))
            self.assertFalse({id(some) for some in lists[:len(rows) + 1]} & {id(some) for some in new})
            for some in new[:len(new) // 2]:
                some.clear()
            self.assertEqual(made, before)
            self.assertEqual(again, least(made))


if __name__ == "__main__":
    unittest.main()
