"""Points 1 and 2: which texts a pattern tells."""

import unittest

from rulescan.patterns import tells
from tests.helping import ALL_SIGNS, EMPTY, all_texts, either, many, maybe, one, row, spelt, texts_of


class Telling(unittest.TestCase):
    def check(self, pattern, told, others):
        """Each text of told is told, none of others is; the answers are True and False themselves."""
        for text in told:
            with self.subTest(pattern=pattern, text=text):
                self.assertIs(tells(pattern, text), True)
        for text in others:
            with self.subTest(pattern=pattern, text=text):
                self.assertIs(tells(pattern, text), False)

    def check_all(self, pattern, signs, most=5):
        """Just the texts of point 2 are told, of all texts of at most so many of these signs."""
        told = texts_of(pattern, most)
        self.check(pattern, sorted(told), [text for text in all_texts(signs, most) if text not in told])


class Leaf(Telling):
    def test_one_sign(self):
        self.check(one("a"), ["a"], ["", "b", "A", "aa", "ab", "ba", " a", "a\n"])

    def test_several_signs(self):
        self.check(one("abc"), ["a", "b", "c"], ["", "d", "ab", "abc", "aa", "cb"])

    def test_each_sign_of_point_1(self):
        for sign in ALL_SIGNS:
            self.check(one(sign), [sign], ["", sign + sign] + [other for other in ALL_SIGNS if other != sign])

    def test_all_signs_in_one_leaf(self):
        self.assertEqual(len(ALL_SIGNS), 96)
        self.check(one(ALL_SIGNS), list(ALL_SIGNS), ["", ALL_SIGNS, "%"])

    def test_blank_tilde_line_end_and_tab(self):
        self.check(one(" ~\n\t"), [" ", "~", "\n", "\t"], ["", "  ", "\n\n", "\t\n", "n", "t", "\\"])

    def test_signs_that_mean_something_elsewhere_mean_themselves(self):
        self.check(one(".*"), [".", "*"], ["", "a", "..", ".*"])
        self.check(one("a-c^"), ["a", "-", "c", "^"], ["b", "d", ""])
        self.check(one("]\\"), ["]", "\\"], ["a", "", "]\\"])


class Row(Telling):
    def test_two_leaves(self):
        self.check(row(one("a"), one("b")), ["ab"], ["", "a", "b", "ba", "abb", "aab", "aba"])

    def test_leaves_of_several_signs(self):
        self.check(row(one("ab"), one("01"), one("a")), ["a0a", "a1a", "b0a", "b1a"], ["", "a0", "a0b", "0aa", "aa0"])

    def test_no_parts(self):
        self.check(EMPTY, [""], ["a", " ", "\n", "aa"])

    def test_one_part(self):
        self.check(row(one("ab")), ["a", "b"], ["", "ab", "aa"])

    def test_rows_of_no_parts_among_the_parts(self):
        self.check(row(EMPTY, one("a"), EMPTY, EMPTY, one("b"), EMPTY), ["ab"], ["", "a", "b", "aab"])
        self.check(row(EMPTY, EMPTY), [""], ["a"])

    def test_rows_in_rows(self):
        inner = row(one("b"), row(one("c")))
        self.check(row(one("a"), inner, row(inner, one("d"))), ["abcbcd"], ["", "abcd", "abcbc", "bcbcd", "abccbd"])
        self.check(row(row(row(one("a")), one("b")), row(row())), ["ab"], ["", "a", "abb"])

    def test_the_same_part_twice(self):
        leaf = one("xy")
        self.check(row(leaf, leaf), ["xx", "xy", "yx", "yy"], ["", "x", "xyx"])

    def test_signs_of_every_kind_in_a_row(self):
        self.check(spelt(" ~\n\t"), [" ~\n\t"], ["", " ~\n", "~\n\t", " ~\t\n", " ~\n\t\n"])


class Or(Telling):
    def test_two_leaves(self):
        self.check(either(one("a"), one("b")), ["a", "b"], ["", "ab", "ba", "c"])

    def test_one_part(self):
        self.check(either(one("ab")), ["a", "b"], ["", "ab"])

    def test_unlike_lengths(self):
        self.check(either(spelt("abc"), one("a"), spelt("ab")), ["a", "ab", "abc"], ["", "b", "bc", "abca", "aa"])

    def test_the_shorter_part_is_the_one_that_is_needed(self):
        self.check(row(either(spelt("ab"), one("a")), spelt("bc")), ["abc", "abbc"], ["", "ab", "abb", "bc", "abcbc"])

    def test_the_later_part_is_the_one_that_is_needed(self):
        self.check(row(either(one("a"), spelt("ab")), one("c")), ["ac", "abc"], ["", "ab", "a", "abbc", "aac"])

    def test_a_row_of_choices(self):
        choice = either(one("a"), spelt("ab"), spelt("aba"))
        pattern = row(choice, choice, choice)
        self.check_all(pattern, "ab", 9)
        self.check(pattern, ["aaa", "abaaba", "ababaaba", "abaabaaba", "aabab"], ["", "a", "aa", "bbb", "abababab"])

    def test_a_choice_with_the_empty_text(self):
        pattern = row(either(EMPTY, one("a")), either(one("a"), EMPTY), one("a"))
        self.check(pattern, ["a", "aa", "aaa"], ["", "aaaa", "b"])

    def test_choices_in_choices(self):
        self.check(either(either(one("a"), either(spelt("bb"))), EMPTY), ["", "a", "bb"], ["b", "ab", "abb"])

    def test_parts_that_tell_the_same(self):
        self.check(either(one("a"), one("ab"), one("a")), ["a", "b"], ["", "aa", "ab"])


class Many(Telling):
    def test_a_leaf(self):
        self.check(many(one("a")), ["", "a", "aa", "a" * 61], ["b", "ab", "ba", "aab", "a" * 60 + "b"])

    def test_a_leaf_of_several_signs(self):
        self.check(many(one("ab")), ["", "a", "b", "abba", "bbbb"], ["c", "abc", "cab"])

    def test_a_row_of_two_leaves(self):
        self.check(many(row(one("a"), one("b"))), ["", "ab", "abab", "ab" * 30], ["a", "b", "ba", "aba", "abb", "aab"])

    def test_a_choice_of_unlike_lengths(self):
        pattern = many(either(spelt("ab"), spelt("aba")))
        self.check_all(pattern, "ab", 8)
        self.check(pattern, ["abaab", "ababa", "abaaba"], ["aba" * 3 + "b" * 2, "abb"])

    def test_what_follows_takes_back_what_many_could_have_taken(self):
        self.check(row(many(one("ab")), one("a"), one("b")), ["ab", "aab", "abab", "bbab"], ["", "a", "ba", "aba"])

    def test_many_beside_many(self):
        self.check_all(row(many(one("a")), many(one("b")), many(one("a"))), "ab", 6)
        self.check_all(either(many(one("a")), many(one("b"))), "ab", 5)

    def test_many_of_maybe(self):
        self.check(many(maybe(one("a"))), ["", "a", "aa", "a" * 61], ["b", "ab", "ba"])
        self.check_all(many(maybe(spelt("ab"))), "ab")

    def test_many_of_many(self):
        self.check(many(many(one("a"))), ["", "a", "aaaa", "a" * 61], ["b", "aab", "baa"])
        self.check_all(many(many(many(spelt("ab")))), "ab", 7)
        self.check_all(many(row(many(one("a")), one("b"))), "ab", 6)
        self.check_all(many(row(many(one("a")), many(one("b")))), "ab", 6)

    def test_many_of_a_row_of_no_parts(self):
        self.check(many(EMPTY), [""], ["a", " ", "aa"])
        self.check(many(many(EMPTY)), [""], ["a", " ", "aa"])
        self.check(many(either(EMPTY, one("a"))), ["", "a", "aaa"], ["b", "ab"])

    def test_many_of_a_row_of_many(self):
        self.check_all(many(row(many(one("a")), maybe(one("b")), many(spelt("ab")))), "ab", 6)


class Maybe(Telling):
    def test_a_leaf(self):
        self.check(maybe(one("ab")), ["", "a", "b"], ["aa", "ab", "c"])

    def test_a_row(self):
        self.check(maybe(spelt("ab")), ["", "ab"], ["a", "b", "abab", "ba"])

    def test_maybe_of_many(self):
        self.check(maybe(many(one("a"))), ["", "a", "aaa"], ["b", "ab", "ba"])
        self.check_all(maybe(many(spelt("ab"))), "ab")

    def test_maybe_of_maybe_and_of_a_row_of_no_parts(self):
        self.check(maybe(maybe(one("a"))), ["", "a"], ["aa", "b"])
        self.check(maybe(EMPTY), [""], ["a", " "])

    def test_maybe_in_a_row(self):
        self.check(row(maybe(one("a")), one("a"), maybe(one("b"))), ["a", "aa", "ab", "aab"], ["", "b", "aaa", "abb"])
        self.check(row(maybe(one("a")), maybe(one("b"))), ["", "a", "b", "ab"], ["ba", "aa", "bb", "aba"])


class TheEmptyText(Telling):
    def test_for_each_kind(self):
        self.check(one("a"), [], [""])
        self.check(EMPTY, [""], [])
        self.check(row(one("a")), [], [""])
        self.check(row(maybe(one("a")), many(one("b")), EMPTY), [""], [])
        self.check(row(maybe(one("a")), one("b")), [], [""])
        self.check(either(one("a"), spelt("ab")), [], [""])
        self.check(either(one("a"), maybe(one("b"))), [""], [])
        self.check(many(one("a")), [""], [])
        self.check(maybe(one("a")), [""], [])


if __name__ == "__main__":
    unittest.main()
