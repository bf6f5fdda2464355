"""Points 5 and 6: the word at a place, and the cut by trying all patterns."""

import unittest

from rulescan.trying import tried
from tests.helping import EMPTY, check_pieces, either, many, maybe, one, row, spelt

NAME = row(one("abcdefghijklmnopqrstuvwxyz"), many(one("abcdefghijklmnopqrstuvwxyz")))
NUMBER = row(one("0123456789"), many(one("0123456789")))
BLANKS = row(one(" \n\t"), many(one(" \n\t")))


class Words(unittest.TestCase):
    def test_an_ordinary_text(self):
        words = [spelt("if"), NAME, NUMBER, BLANKS]
        self.assertEqual(tried(words, "if x1\n ify"),
                         [(0, 0, 2), (3, 2, 3), (1, 3, 4), (2, 4, 5), (3, 5, 7), (1, 7, 10)])

    def test_the_longest_wins_over_an_earlier_pattern_with_a_shorter_one(self):
        self.assertEqual(tried([one("a"), spelt("ab")], "ab"), [(1, 0, 2)])
        self.assertEqual(tried([spelt("if"), NAME], "iffy"), [(1, 0, 4)])

    def test_the_longest_wins_over_a_later_pattern_with_a_shorter_one(self):
        self.assertEqual(tried([spelt("ab"), one("a")], "aba"), [(0, 0, 2), (1, 2, 3)])

    def test_of_equally_long_ones_the_first_pattern(self):
        self.assertEqual(tried([spelt("if"), NAME], "if"), [(0, 0, 2)])
        self.assertEqual(tried([NAME, spelt("if")], "if"), [(0, 0, 2)])
        self.assertEqual(tried([one("x"), NAME, spelt("if")], "if"), [(1, 0, 2)])

    def test_a_longest_word_behind_stretches_of_which_nothing_is_told(self):
        self.assertEqual(tried([one("a"), spelt("abcd")], "abcd"), [(1, 0, 4)])
        self.assertEqual(tried([one("a"), spelt("abcd")], "abca"), [(0, 0, 1), (None, 1, 2), (None, 2, 3), (0, 3, 4)])

    def test_one_pattern_has_words_of_unlike_lengths(self):
        choice = either(one("a"), spelt("aba"), spelt("ab"))
        self.assertEqual(tried([choice], "abaaba"), [(0, 0, 3), (0, 3, 6)])
        self.assertEqual(tried([choice], "abab"), [(0, 0, 3), (None, 3, 4)])

    def test_the_longest_word_is_cut_even_if_the_rest_is_then_no_word(self):
        self.assertEqual(tried([spelt("ab"), spelt("a"), spelt("bc")], "abc"), [(0, 0, 2), (None, 2, 3)])

    def test_a_word_begins_at_its_place_not_behind_it(self):
        self.assertEqual(tried([spelt("ab")], "cab"), [(None, 0, 1), (0, 1, 3)])


class SignsThatBeginNoWord(unittest.TestCase):
    def test_each_is_cut_off_by_itself(self):
        self.assertEqual(tried([one("a")], "bba!"), [(None, 0, 1), (None, 1, 2), (0, 2, 3), (None, 3, 4)])

    def test_a_sign_that_begins_a_pattern_but_no_word(self):
        self.assertEqual(tried([spelt("ab")], "aab"), [(None, 0, 1), (0, 1, 3)])

    def test_blanks_line_ends_tabs_and_tildes(self):
        self.assertEqual(tried([one("~")], " ~\n\t"), [(None, 0, 1), (0, 1, 2), (None, 2, 3), (None, 3, 4)])


class TheEmptyText(unittest.TestCase):
    def test_its_cut_is_empty(self):
        self.assertEqual(tried([one("a")], ""), [])
        self.assertEqual(tried([EMPTY], ""), [])
        self.assertEqual(tried([many(one("a"))], ""), [])

    def test_a_pattern_that_tells_it_makes_no_word_of_no_signs(self):
        self.assertEqual(tried([EMPTY], "ab"), [(None, 0, 1), (None, 1, 2)])
        self.assertEqual(tried([many(one("a"))], "baab"), [(None, 0, 1), (0, 1, 3), (None, 3, 4)])
        self.assertEqual(tried([EMPTY, maybe(one("a")), one("ab")], "ab"), [(1, 0, 1), (2, 1, 2)])


class TheList(unittest.TestCase):
    def test_it_is_a_list_of_tuples_side_by_side(self):
        text = "if x1 := 22!\n\tend~"
        check_pieces(self, tried([spelt("if"), NAME, NUMBER, BLANKS], text), text)

    def test_it_is_new_each_time(self):
        words = [one("a")]
        first = tried(words, "ab")
        first.append("more")
        first[0] = None
        second = tried(words, "ab")
        self.assertIsNot(second, first)
        self.assertEqual(second, [(0, 0, 1), (None, 1, 2)])
        nothing = tried(words, "")
        nothing.append("more")
        self.assertEqual(tried(words, ""), [])


if __name__ == "__main__":
    unittest.main()
