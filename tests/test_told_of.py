"""Point 4: the number that is told of a text; and what point 10 says of the signs."""

import unittest

from rulescan.patterns import signs_of, told_of
from tests.helping import ALL_SIGNS, EMPTY, either, many, maybe, one, row, spelt


class ToldOf(unittest.TestCase):
    def test_the_first_of_two_that_tell_the_same_text(self):
        letter = one("ab")
        self.assertEqual(told_of([letter, one("b")], "b"), 0)
        self.assertEqual(told_of([one("b"), letter], "b"), 0)
        self.assertEqual(told_of([one("c"), letter, one("b"), letter], "b"), 1)
        self.assertEqual(told_of([letter, letter], "a"), 0)

    def test_a_text_that_a_later_one_alone_tells(self):
        words = [spelt("if"), spelt("else"), many(one("abcdef"))]
        self.assertEqual(told_of(words, "if"), 0)
        self.assertEqual(told_of(words, "else"), 1)
        self.assertEqual(told_of(words, "fade"), 2)
        self.assertEqual(told_of([one(sign) for sign in "abcdefgh"], "h"), 7)

    def test_none(self):
        words = [spelt("if"), many(one("ab"))]
        for text in ("i", "f", "iff", "ifif", "ac", "ca", " ", "abif"):
            with self.subTest(text):
                self.assertIsNone(told_of(words, text))

    def test_nought_is_told_not_false_and_not_none(self):
        number = told_of([one("a")], "a")
        self.assertIs(type(number), int)
        self.assertEqual(number, 0)

    def test_the_empty_text(self):
        self.assertIsNone(told_of([one("a"), spelt("ab")], ""))
        self.assertEqual(told_of([EMPTY], ""), 0)
        self.assertEqual(told_of([one("a"), many(one("a"))], ""), 1)
        self.assertEqual(told_of([one("a"), one("b"), maybe(one("a")), EMPTY], ""), 2)

    def test_the_number_is_of_the_whole_text_not_of_a_part(self):
        words = [one("a"), spelt("ab"), spelt("abc")]
        self.assertEqual([told_of(words, text) for text in ("a", "ab", "abc")], [0, 1, 2])

    def test_parts_of_unlike_patterns_are_not_put_together(self):
        self.assertIsNone(told_of([one("a"), one("b")], "ab"))
        self.assertIsNone(told_of([row(one("a"), one("b")), row(one("a"), one("c"))], "abc"))


class SignsOf(unittest.TestCase):
    def test_each_sign_once_in_order(self):
        self.assertEqual(signs_of([one("ba"), one("cab")]), "abc")
        self.assertEqual(signs_of([spelt("zebra"), many(one("aZ0"))]), "0Zaberz")

    def test_in_the_order_of_pythons_texts(self):
        self.assertEqual(signs_of([one("~ aA0\n\t_")]), "\t\n 0A_a~")
        self.assertEqual(signs_of([one(ALL_SIGNS)]), "".join(sorted(ALL_SIGNS)))

    def test_leaves_of_every_kind_of_pattern_count(self):
        deep = either(row(one("e"), many(maybe(one("d")))), either(one("c")))
        self.assertEqual(signs_of([deep, row(), maybe(one("b")), many(one("a"))]), "abcde")

    def test_no_leaves(self):
        self.assertEqual(signs_of([EMPTY]), "")
        self.assertEqual(signs_of([many(maybe(EMPTY)), row(EMPTY, either(EMPTY))]), "")


if __name__ == "__main__":
    unittest.main()
