"""Points 5 to 8: where texts lead in a table, the word at a place, and the cut by a table."""

import copy
import random
import unittest

from rulescan.cutting import cut, walk, word
from tests.helping import ALL_SIGNS, all_texts, chain, check_pieces, cut_by_walking, loop, row_behind, soon, some_table

GREAT = 10 ** 9

# Row 1 is told of "a", row 3 of "abc"; behind "ab" (row 2) nothing is told.
WORDS = ("abc", [(None, [1, None, None]), (4, [None, 2, None]), (None, [None, None, 3]), (7, [None, None, None])])

# The names of signs are forty here, and they are not in Python's order.
FORTY = "zyxwvutsrqponmlkjihgfedcba9876543210~ \n\t"


class Walk(unittest.TestCase):
    def check(self, made, led):
        for text, row in led.items():
            with self.subTest(text):
                self.assertEqual(walk(made, text), row)

    def test_the_empty_text_leads_to_row_nought(self):
        for made in (WORDS, loop([None, 1]), ("", [(None, [])]), ("a", [(GREAT, [None])])):
            number = walk(made, "")
            self.assertIs(type(number), int)
            self.assertEqual(number, 0)

    def test_row_by_row(self):
        self.check(WORDS, {"a": 1, "ab": 2, "abc": 3})

    def test_nowhere_by_none_among_the_ways(self):
        self.check(WORDS, {"b": None, "c": None, "aa": None, "ac": None, "abca": None})

    def test_nowhere_goes_on_leading_nowhere(self):
        self.check(WORDS, {"ba": None, "bab": None, "babc": None, "aabc": None, "b" + "abc" * 9: None})

    def test_a_sign_that_is_none_of_the_tables(self):
        for text in ("d", "A", " ", "\n", "ad", "da", "dabc", "abcd"):
            self.check(WORDS, {text: None})
        self.check(loop([None, 1]), {"b": None, "ab": None, "ba": None, "aaab": None})

    def test_a_row_of_which_nothing_is_told_is_a_row(self):
        self.assertEqual(walk(("a", [(None, [1]), (None, [0])]), "a"), 1)
        self.assertEqual(walk(("a", [(None, [1]), (None, [0])]), "aa"), 0)

    def test_rows_that_lead_back_and_to_themselves(self):
        self.check(("ab", [(None, [1, 0]), (3, [1, 0])]), {"a": 1, "b": 0, "bb": 0, "aa": 1, "ab": 0, "abba": 1})

    def test_signs_stand_in_any_order(self):
        self.check(("ba", [(None, [1, 2]), (1, [None, None]), (2, [None, None])]), {"b": 1, "a": 2})

    def test_no_signs(self):
        self.check(("", [(None, [])]), {"": 0, "a": None, "aa": None, " ": None})
        self.check(("", [(2, []), (3, [])]), {"": 0, "a": None})

    def test_forty_signs(self):
        rows = [(None, list(range(1, 41)))] + [(at, [None] * 40) for at in range(40)]
        for at, sign in enumerate(FORTY):
            self.check((FORTY, rows), {sign: at + 1, sign + sign: None, "A" + sign: None})

    def test_one_row(self):
        self.check(("a", [(GREAT, [None])]), {"": 0, "a": None})
        self.check(("a", [(None, [0])]), {"": 0, "a": 0, "a" * 50: 0, "b": None})

    def test_sixty_four_rows(self):
        made = chain([None] * 63 + [GREAT])
        self.check(made, {"a" * 63: 63, "a" * 62: 62, "a" * 64: None, "a" * 65: None})
        self.check(loop([None] * 64), {"a" * 63: 63, "a" * 64: 0, "a" * 65: 1})

    def test_a_thousand_signs(self):
        with soon():
            self.check(loop([None] * 63 + [1]), {"a" * 1000: 1000 - 64 * 15, "a" * 999 + "b": None})
            self.check(loop([None] * 63 + [1]), {"b" + "a" * 999: None})
            text = (FORTY * 25)[:1000]
            self.assertEqual(walk(loop(list(range(64)), FORTY), text), 1000 - 64 * 15)
            self.assertEqual(walk(loop([None], ALL_SIGNS), (ALL_SIGNS * 11)[:1000]), 0)

    def test_tables_made_by_chance(self):
        chance = random.Random(7)
        for _ in range(200):
            made = some_table(chance, "ba", 6, [None, 0, 1])
            for text in all_texts("abc", 4):
                self.assertEqual(walk(made, text), row_behind(made, 0, text), (made, text))


class Word(unittest.TestCase):
    def test_the_longest_stretch_wins(self):
        self.assertEqual(word(WORDS, "abc", 0), (7, 3))
        self.assertEqual(word(WORDS, "abcabc", 0), (7, 3))
        self.assertEqual(word(chain([None, 5, 3, 9, 2]), "aaaaaaa", 0), (2, 4))
        self.assertEqual(word(chain([None, 5, 3, 9, 2]), "aaa", 0), (9, 3))

    def test_a_stretch_goes_on_through_rows_of_which_none_is_told(self):
        self.assertEqual(word(chain([None, 5, None, None, None, 2]), "aaaaa", 0), (2, 5))
        self.assertEqual(word(chain([None, None, None, 6]), "aaa", 0), (6, 3))

    def test_back_to_the_last_that_was_told(self):
        self.assertEqual(word(WORDS, "ab", 0), (4, 1))
        self.assertEqual(word(WORDS, "aba", 0), (4, 1))
        self.assertEqual(word(WORDS, "abx", 0), (4, 1))
        self.assertEqual(word(chain([None, 5, None, None, None, 2]), "aaaa", 0), (5, 1))

    def test_no_word_of_no_signs(self):
        self.assertIsNone(word(("a", [(3, [None])]), "a", 0))
        self.assertIsNone(word(("a", [(3, [None])]), "b", 0))
        self.assertIsNone(word(("ab", [(3, [1, None]), (None, [None, None])]), "ab", 0))
        self.assertIsNone(word(("", [(3, [])]), "a", 0))
        self.assertIsNone(word(("a", [(3, [None])]), "", 0))

    def test_row_nought_told_behind_some_signs(self):
        self.assertEqual(word(loop([3]), "aab", 0), (3, 2))
        self.assertEqual(word(loop([3, None]), "aaa", 0), (3, 2))

    def test_none(self):
        self.assertIsNone(word(WORDS, "ba", 0))
        self.assertIsNone(word(WORDS, "d", 0))
        self.assertIsNone(word(chain([None, None, None, 6]), "aa", 0))
        self.assertIsNone(word(loop([None, None]), "aaaa", 0))

    def test_from_row_nought_on_at_each_place(self):
        text = "xabcab"
        self.assertEqual([word(WORDS, text, at) for at in range(7)], [None, (7, 4), None, None, (4, 5), None, None])

    def test_the_end_is_a_place_of_the_whole_text(self):
        self.assertEqual(word(WORDS, "cabca", 1), (7, 4))

    def test_what_stands_before_the_place_is_not_read(self):
        self.assertIsNone(word(WORDS, "abc", 1))
        self.assertEqual(word(("ab", [(None, [1, 0]), (1, [None, None])]), "zba", 1), (1, 3))

    def test_at_the_texts_end(self):
        self.assertIsNone(word(WORDS, "abc", 3))
        self.assertIsNone(word(loop([3]), "aaa", 3))
        self.assertIsNone(word(loop([3]), "", 0))

    def test_nought_is_a_number(self):
        self.assertEqual(word(("a", [(None, [1]), (0, [None])]), "a", 0), (0, 1))
        self.assertEqual(word(chain([None, 3, 0]), "aa", 0), (0, 2))

    def test_great_numbers(self):
        self.assertEqual(word(chain([None, 1, GREAT]), "aaa", 0), (GREAT, 2))

    def test_it_is_a_tuple(self):
        found = word(WORDS, "abc", 0)
        self.assertIs(type(found), tuple)
        self.assertEqual(len(found), 2)


class Cut(unittest.TestCase):
    def test_words_and_single_signs(self):
        self.assertEqual(cut(WORDS, "abcabxa"),
                         [(7, 0, 3), (4, 3, 4), (None, 4, 5), (None, 5, 6), (4, 6, 7)])

    def test_where_there_is_no_word_one_sign_alone_is_cut_off(self):
        self.assertEqual(cut(WORDS, "bbd"), [(None, 0, 1), (None, 1, 2), (None, 2, 3)])
        self.assertEqual(cut(chain([None, None, 1]), "aaa"), [(1, 0, 2), (None, 2, 3)])

    def test_the_next_word_begins_at_row_nought(self):
        self.assertEqual(cut(chain([None, 5]), "aaa"), [(5, 0, 1), (5, 1, 2), (5, 2, 3)])
        self.assertEqual(cut(chain([None, None, None, 5]), "aaaaaaa"), [(5, 0, 3), (5, 3, 6), (None, 6, 7)])

    def test_a_number_told_of_row_nought_makes_no_word_of_no_signs(self):
        self.assertEqual(cut(("a", [(3, [None])]), "aa"), [(None, 0, 1), (None, 1, 2)])
        self.assertEqual(cut(("", [(3, [])]), "ab"), [(None, 0, 1), (None, 1, 2)])
        self.assertEqual(cut(loop([3, None]), "aaa"), [(3, 0, 2), (None, 2, 3)])

    def test_the_empty_text(self):
        for made in (WORDS, loop([3]), ("", [(3, [])])):
            self.assertEqual(cut(made, ""), [])

    def test_nought_and_great_numbers(self):
        made = ("ab", [(None, [1, 2]), (0, [None, None]), (GREAT, [None, 2])])
        self.assertEqual(cut(made, "abba"), [(0, 0, 1), (GREAT, 1, 3), (0, 3, 4)])

    def test_blanks_line_ends_tabs_and_tildes(self):
        made = ("~ \n", [(None, [None, 1, 1]), (6, [None, 1, 1])])
        self.assertEqual(cut(made, "~ \n \t"), [(None, 0, 1), (6, 1, 4), (None, 4, 5)])

    def test_tuples_side_by_side(self):
        text = "abcxabab" * 3
        check_pieces(self, cut(WORDS, text), text)

    def test_two_hundred_signs(self):
        with soon():
            self.assertEqual(cut(loop([3]), "a" * 200), [(3, 0, 200)])
            self.assertEqual(cut(loop([3]), "b" * 200), [(None, at, at + 1) for at in range(200)])
            # At each place the rest of the text is read before it is known that there is no word.
            self.assertEqual(cut(loop([None] * 64), "a" * 200), [(None, at, at + 1) for at in range(200)])
            self.assertEqual(cut(chain([None] * 63 + [1]), "a" * 200),
                             [(1, 0, 63), (1, 63, 126), (1, 126, 189)] + [(None, at, at + 1) for at in range(189, 200)])

    def test_it_is_new_each_time(self):
        first = cut(WORDS, "abx")
        first.append("more")
        first[0] = None
        second = cut(WORDS, "abx")
        self.assertIsNot(second, first)
        self.assertEqual(second, [(4, 0, 1), (None, 1, 2), (None, 2, 3)])
        nothing = cut(WORDS, "")
        nothing.append("more")
        self.assertEqual(cut(WORDS, ""), [])

    def test_tables_made_by_chance(self):
        chance = random.Random(8)
        for _ in range(300):
            made = some_table(chance, "ba", 6, [None, None, 0, 1])
            text = "".join(chance.choice("aabbc") for _ in range(chance.randrange(12)))
            pieces = cut_by_walking(made, text)
            self.assertEqual(cut(made, text), pieces, (made, text))
            for number, begin, end in pieces:
                self.assertEqual(word(made, text, begin), None if number is None else (number, end), (made, text))


class WhatIsHandedIn(unittest.TestCase):
    def test_it_stays_as_it_was(self):
        for made in (WORDS, loop([3, None], "ab"), ("", [(3, [])])):
            before = copy.deepcopy(made)
            for text in ("", "abcab", "babbax"):
                walk(made, text)
                cut(made, text)
                for at in range(len(text) + 1):
                    word(made, text, at)
                self.assertEqual(made, before)

    def test_an_answer_does_not_hang_on_earlier_ones(self):
        made = ("a", [(None, [1]), (0, [None])])
        self.assertEqual((walk(made, "aa"), cut(made, "aa")), (None, [(0, 0, 1), (0, 1, 2)]))
        made[1][1][1][0] = 1
        self.assertEqual((walk(made, "aa"), cut(made, "aa"), word(made, "aa", 0)), (1, [(0, 0, 2)], (0, 2)))


if __name__ == "__main__":
    unittest.main()
