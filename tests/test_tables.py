"""Points 10 and 11: the table of patterns, and when it is refused."""

import copy
import random
import unittest

from rulescan.cutting import cut, walk, word
from rulescan.errors import NoPattern, RuleError, TooGreat, TooMany
from rulescan.leasts import least
from rulescan.patterns import signs_of, tells, told_of
from rulescan.tables import table
from rulescan.trying import tried
from tests.helping import (ALL_SIGNS, EMPTY, all_texts, beginnings_of, either, least_by_texts, many, maybe, one,
                           put_together, row, some_pattern, soon, spelt, texts_of, told_behind, told_by_sets)

LETTERS = "abcdefghijklmnopqrstuvwxyz"
NAME = row(one(LETTERS), many(one(LETTERS)))
NUMBER = row(one("0123456789"), many(one("0123456789")))
BLANKS = row(one(" \n\t"), many(one(" \n\t")))


class Tables(unittest.TestCase):
    def check(self, patterns, signs, most=5):
        """Behind all short texts just that is told which the texts of point 2 tell, in a least table."""
        made = table(patterns)
        sets = [texts_of(pattern, most) for pattern in patterns]
        begun = {text for pattern in patterns for text in beginnings_of(pattern, most)}
        for text in all_texts(signs, most):
            self.assertEqual(told_behind(made, 0, text), told_by_sets(sets, text), (patterns, text))
            self.assertEqual(walk(made, text) is not None, text in begun, (patterns, text))
        self.assertEqual(least(made), made)
        self.assertEqual(made[0], signs_of(patterns))
        return made


class EachKind(Tables):
    def test_a_leaf(self):
        self.assertEqual(table([one("a")]), ("a", [(None, [1]), (0, [None])]))
        self.assertEqual(table([one("ba")]), ("ab", [(None, [1, 1]), (0, [None, None])]))
        self.check([one("ab")], "abc")

    def test_a_row(self):
        self.assertEqual(table([row(one("b"), one("a"))]),
                         ("ab", [(None, [None, 1]), (None, [2, None]), (0, [None, None])]))
        self.check([row(one("a"), one("ab"), one("b"))], "abc")
        self.check([row(maybe(one("a")), many(one("ab")), one("b"))], "abc")

    def test_a_row_of_no_parts(self):
        self.assertEqual(table([EMPTY]), ("", [(0, [])]))
        self.check([EMPTY], "ab")
        self.check([one("a"), EMPTY], "ab")

    def test_an_or(self):
        self.assertEqual(table([either(one("a"), row(one("a"), one("a")))]),
                         ("a", [(None, [1]), (0, [2]), (0, [None])]))
        self.check([either(spelt("ab"), spelt("ac"), many(one("c")))], "abc")

    def test_many(self):
        self.assertEqual(table([many(one("a"))]), ("a", [(0, [0])]))
        self.assertEqual(table([many(spelt("ab"))]), ("ab", [(0, [1, None]), (None, [None, 0])]))
        self.check([many(either(one("a"), spelt("ba")))], "abc")

    def test_maybe(self):
        self.assertEqual(table([maybe(one("a"))]), ("a", [(0, [1]), (0, [None])]))
        self.check([maybe(spelt("ab")), maybe(many(spelt("ba")))], "abc")


class SeveralPatterns(Tables):
    def test_the_first_that_tells_is_told(self):
        self.assertEqual(table([one("ab"), one("b")]), ("ab", [(None, [1, 1]), (0, [None, None])]))
        self.assertEqual(table([one("b"), one("ab")]), ("ab", [(None, [1, 2]), (1, [None, None]), (0, [None, None])]))
        self.check([spelt("ab"), many(one("ab")), one("c")], "abc")

    def test_a_word_and_what_goes_on_from_it(self):
        made = self.check([spelt("if"), row(one("if"), many(one("if"))), row(one("0"), many(one("0")))], "if0", 4)
        self.assertEqual(made, ("0fi", [
            (None, [1, 2, 3]), (2, [1, None, None]), (1, [None, 2, 2]), (1, [None, 4, 2]), (0, [None, 2, 2])]))

    def test_eight(self):
        patterns = [one(sign) for sign in "hgfedcba"]
        leaves = [(7 - at, [None] * 8) for at in range(8)]
        self.assertEqual(table(patterns), ("abcdefgh", [(None, [1, 2, 3, 4, 5, 6, 7, 8])] + leaves))

    def test_the_empty_text_is_told_of_row_nought(self):
        self.assertEqual(table([one("a"), many(one("a"))]), ("a", [(1, [1]), (0, [2]), (1, [2])]))
        self.assertEqual(table([one("a"), maybe(one("a")), EMPTY])[1][0][0], 1)

    def test_a_row_from_which_no_text_is_told_is_none(self):
        self.check([spelt("abca"), many(spelt("bc"))], "abc")

    def test_made_by_chance(self):
        chance = random.Random(12)
        for _ in range(120):
            patterns = [some_pattern(chance, "ab", 3) for _ in range(chance.randrange(1, 5))]
            try:
                made = table(patterns)
            except (TooGreat, TooMany):
                continue
            self.assertEqual(made, self.check(patterns, "abc", 4))
            if len(made[1]) < 7:
                self.assertEqual(made, least_by_texts(made))

    def test_made_by_chance_of_three_signs(self):
        chance = random.Random(13)
        for _ in range(60):
            patterns = [some_pattern(chance, "~a\n", 4) for _ in range(chance.randrange(1, 4))]
            try:
                table(patterns)
            except (TooGreat, TooMany):
                continue
            self.check(patterns, "~a\nb", 3)


class Signs(Tables):
    def test_all_signs_of_the_leaves_each_once_in_pythons_order(self):
        self.assertEqual(table([one("ba"), one("cab")])[0], "abc")
        self.assertEqual(table([spelt("zebra"), many(one("aZ0"))])[0], "0Zaberz")
        self.assertEqual(table([one("~ aA0\n\t_")])[0], "\t\n 0A_a~")
        self.assertEqual(table([one(ALL_SIGNS)])[0], "".join(sorted(ALL_SIGNS)))

    def test_of_leaves_that_no_told_text_needs(self):
        self.assertEqual(table([one("ab"), one("b")])[0], "ab")
        self.assertEqual(table([either(one("ab"), one("b"), row(one("a"), EMPTY))])[0], "ab")
        self.assertEqual(table([many(one("abc")), row(one("c"), one("b"))]), ("abc", [(0, [0, 0, 0])]))

    def test_no_signs(self):
        self.assertEqual(table([EMPTY, many(maybe(EMPTY))]), ("", [(0, [])]))
        self.assertEqual(table([either(EMPTY, row(EMPTY))]), ("", [(0, [])]))


class PatternsThatTellTheSame(Tables):
    def check_same(self, *lists):
        for patterns in lists:
            self.assertEqual(table(patterns), table(lists[0]), patterns)

    def test_one_pattern(self):
        a = one("a")
        self.check_same([many(a)], [many(many(a))], [maybe(row(a, many(a)))], [many(maybe(a))], [row(many(a), many(a))],
                        [either(EMPTY, row(many(a), a))], [many(either(a, row(a, a, a)))])
        self.check_same([one("ab")], [either(one("b"), one("a"))], [row(EMPTY, one("ba"))],
                        [either(one("ab"), one("b"))])
        self.check_same([row(a, many(row(one("b"), a)))], [row(many(row(a, one("b"))), a)])
        self.check_same([either(spelt("ac"), spelt("bc"))], [row(one("ba"), one("c"))])

    def test_place_by_place(self):
        self.check_same([NAME, NUMBER], [row(many(one(LETTERS)), one(LETTERS)), row(many(NUMBER), NUMBER)])
        self.check_same([one("a"), one("ab")], [one("a"), either(one("b"), one("a"))], [one("a"), one("b")])

    def test_the_order_of_the_patterns_counts(self):
        self.assertNotEqual(table([one("a"), one("ab")]), table([one("ab"), one("a")]))
        self.assertNotEqual(table([one("a"), one("b")]), table([one("b"), one("a")]))


class CutByTheTable(unittest.TestCase):
    def check(self, patterns, texts):
        made = table(patterns)
        for text in texts:
            self.assertEqual(cut(made, text), tried(patterns, text), (patterns, text))

    def test_an_ordinary_text(self):
        words = [spelt("if"), NAME, NUMBER, BLANKS]
        text = "if x1\n ify!0if\tfi"
        self.check(words, [text[at:] for at in range(len(text) + 1)])
        self.assertEqual(cut(table(words), "if x1"), [(0, 0, 2), (3, 2, 3), (1, 3, 4), (2, 4, 5)])
        self.assertEqual(word(table(words), "x ify", 2), (1, 5))

    def test_made_by_chance(self):
        chance = random.Random(14)
        for _ in range(150):
            patterns = [some_pattern(chance, "ab", 4) for _ in range(chance.randrange(1, 5))]
            try:
                table(patterns)
            except (TooGreat, TooMany):
                continue
            for _ in range(10):
                self.check(patterns, ["".join(chance.choice("aabbc") for _ in range(chance.randrange(25)))])

    def test_eighty_signs(self):
        with soon():
            self.check([row(*[maybe(one("a"))] * 58, one("b")), one("a")], ["a" * 80, "a" * 79 + "b", "b" * 80])
            self.check([many(either(*[one(ALL_SIGNS)] * 60))], [ALL_SIGNS[:80]])


def tail(signs, behind):
    """Any signs, then the first of them, then so many more: to 2 ** (behind + 1) sets of leaves texts come."""
    return row(many(one(signs)), one(signs[0]), *[one(signs)] * behind)


def line(signs, length):
    """So many leaves one behind the other: so many sets of one leaf."""
    return row(*[one(signs)] * length)


def ends_of(pattern, name, most):
    """Point 11: each text of at most so many signs, with each leaf that is come to behind it."""
    kind, inner = pattern
    if kind == "one":
        return {(sign, name) for sign in inner}
    if kind == "maybe":
        return ends_of(inner, name, most)
    before = texts_of(pattern, most) if kind == "many" else {""}
    parts = [inner] if kind == "many" else inner
    found = set()
    for at, part in enumerate(parts):
        ends = ends_of(part, (*name, at), most)
        found |= {(head + tail, leaf) for head in before for tail, leaf in ends if len(head + tail) <= most}
        if kind == "row":
            before = put_together(before, texts_of(part, most), most)
    return found


def sets_behind(patterns, signs, most):
    """All sets of leaves that are come to behind short texts, and whether longer ones come to no others."""
    leaves = {}
    for text, leaf in ends_of(either(*patterns), (), most):
        leaves.setdefault(text, set()).add(leaf)
    sets = [set(), set()]
    for text in all_texts(signs, most)[1:]:
        sets[len(text) == most].add(frozenset(leaves.get(text, ())))
    return (sets[0] | sets[1]) - {frozenset()}, sets[1] <= sets[0]


class Refused(unittest.TestCase):
    def check_refused(self, patterns, error):
        for above in (error, RuleError, ValueError):
            with self.assertRaises(above) as caught:
                table(patterns)
            self.assertIs(type(caught.exception), error)


class TooManySets(Refused):
    def check_edge(self, allowed, refused):
        """The one list comes to sixty-three sets of leaves, the other to sixty-four."""
        self.assertEqual(least(table(allowed)), table(allowed))
        self.check_refused(refused, TooGreat)

    def test_in_one_pattern(self):
        self.check_edge([either(tail("ab", 4), line("c", 31))], [either(tail("ab", 4), line("c", 32))])
        self.check_edge([row(tail("ab", 3), line("c", 47))], [row(tail("ab", 3), line("c", 48))])
        self.check_refused([tail("ab", 5)], TooGreat)
        self.check_refused([many(tail("ab", 5))], TooGreat)

    def test_sixty_leaves_in_a_row_are_not_too_many(self):
        made = table([line("ab", 60)])
        self.assertEqual(made, ("ab", [(None, [at + 1, at + 1]) for at in range(60)] + [(0, [None, None])]))

    def test_of_all_patterns_together(self):
        self.check_edge([tail("ab", 4), line("c", 31)], [tail("ab", 4), line("c", 32)])
        self.check_edge([line("c", 15), tail("ab", 4), line("d", 16)], [line("c", 16), tail("ab", 4), line("d", 16)])
        self.check_edge([tail("ab", 3), tail("cd", 3), line("e", 31)], [tail("ab", 3), tail("cd", 3), line("e", 32)])

    def test_sets_in_which_leaves_of_several_patterns_are(self):
        # Behind so many signs a leaf of seven and a leaf of nine are come to: sixty-three pairs of them.
        rings = [many(line("a", 7)), many(line("a", 9))]
        made = table(rings)
        self.assertEqual(len(made[1]), 63)
        for length in range(130):
            told = 0 if length % 7 == 0 else 1 if length % 9 == 0 else None
            self.assertEqual(told_behind(made, 0, "a" * length), told)
        self.check_edge(rings, [*rings, one("b")])
        self.check_refused([many(line("a", 5)), many(line("a", 13))], TooGreat)
        self.assertEqual(len(table([many(line("a", 5)), many(line("a", 12))])[1]), 60)

    def test_a_set_is_counted_once_however_many_texts_come_to_it(self):
        self.assertEqual(table([many(either(*[one("abcd")] * 60))]), ("abcd", [(0, [0] * 4)]))
        self.assertEqual(len(table([many(line("abcd", 60))])[1]), 60)

    def test_sets_are_counted_though_the_least_table_is_small(self):
        self.check_refused([many(one("ab")), tail("ab", 5)], TooGreat)
        self.assertEqual(table([many(one("ab")), tail("ab", 4)]), ("ab", [(0, [0, 0])]))
        self.check_refused([either(many(one("ab")), tail("ab", 5))], TooGreat)
        self.assertEqual(table([either(many(one("ab")), tail("ab", 4))]), ("ab", [(0, [0, 0])]))

    def test_leaves_of_the_same_signs_are_unlike_leaves(self):
        self.assertEqual(len(table([line("a", 60)])[1]), 61)
        self.assertEqual(len(table([line("a", 20)] * 3)[1]), 21)

    def test_made_by_chance_and_filled_up_to_sixty_three(self):
        chance = random.Random(19)
        parts = [one("a"), one("ab"), one("ab"), one("ab"), maybe(one("b")), many(one("a"))]
        checked = 0
        while checked < 20:
            some = [chance.choice(parts) for _ in range(chance.randrange(2, 6))]
            patterns = [row(many(one("ab")), one("a"), *some), some_pattern(chance, "ab", 3)]
            sets, whole = sets_behind(patterns, "ab", 9)
            if whole and 20 <= len(sets) < 64:
                self.check_edge([*patterns, line("c", 63 - len(sets))], [*patterns, line("c", 64 - len(sets))])
                checked += 1

    def test_none_is_looked_at_behind_the_empty_text(self):
        # The set behind the empty text would be the sixty-fourth.
        self.assertEqual(len(table([tail("ab", 4), line("c", 31)])[1]), 64)
        self.assertEqual(len(table([maybe(tail("ab", 4)), maybe(line("c", 31))])[1]), 64)

    def test_a_set_of_none_is_not_counted(self):
        made = table([tail("ab", 4), line("c", 31)])
        for text in ("ac", "ca", "c" * 32, "d"):
            self.assertIsNone(walk(made, text))

    def test_only_leaves_of_patterns_that_tell_a_text_that_begins_so(self):
        # Behind "a" a leaf of both is come to, behind "ac" of the second alone: one and thirty of its own.
        self.check_edge([tail("ab", 4), row(one("a"), line("c", 30))], [tail("ab", 4), row(one("a"), line("c", 31))])
        # Behind "aa" the second tells nothing more, and is not looked at again.
        second = row(one("a"), one("b"), line("c", 29))
        self.check_edge([tail("ab", 4), second], [tail("ab", 4), second, one("d")])


class WhichRefusal(Refused):
    def test_point_three_comes_first(self):
        great = tail("ab", 5)
        self.check_refused([great], TooGreat)
        for fault in (one(""), one("aa"), either(), many(one("bb")), row(one("z"), either())):
            self.check_refused([great, fault], NoPattern)
            self.check_refused([fault, great], NoPattern)
        self.check_refused([great] + [one("a")] * 8, TooMany)
        self.check_refused([great, line("a", 60)], TooMany)
        self.check_refused([line("a", 60), great], TooMany)

    def test_point_three_alone(self):
        self.check_refused([], TooMany)
        self.check_refused([one("a")] * 9, TooMany)
        self.check_refused([line("a", 61)], TooMany)
        self.check_refused([one("")], NoPattern)
        self.check_refused([one("aba")], NoPattern)
        self.check_refused([many(either())], NoPattern)

    def test_only_the_table_is_too_great(self):
        for patterns, signs, told in (([tail("ab", 5)], "ab", 0), ([tail("ab", 57)], "ab", None),
                                      ([tail("ab", 4), line("c", 32)], "abc", 0)):
            self.check_refused(patterns, TooGreat)
            self.assertEqual(signs_of(patterns), signs)
            self.assertEqual(told_of(patterns, "a" * 38), told)
            self.assertIsNone(told_of(patterns, "b" * 38))
            self.assertIs(tells(patterns[0], "a" * 61), True)
            self.assertIs(tells(patterns[0], "b" * 61), False)
            self.assertEqual(tried(patterns, "a" * 80), [(0, 0, 80)])


class WhatIsHandedIn(unittest.TestCase):
    def test_it_stays_as_it_was(self):
        mixed = [row(one("a"), many(either(one("b"), row(), maybe(spelt("cd"))))), EMPTY, maybe(row(one("ba")))]
        for patterns in (mixed, [tail("ab", 5)], [row(one("a"), one("")), either()], [one("a")] * 9):
            before = copy.deepcopy(patterns)
            try:
                table(patterns)
            except RuleError:
                pass
            self.assertEqual(patterns, before)

    def test_the_lists_are_new_and_each_row_has_its_own(self):
        patterns = [many(one("ab")), row(one("c"), one("c"))]
        first, second = table(patterns), table(patterns)
        lists = [first[1], second[1], *[ways for made in (first, second) for _, ways in made[1]]]
        self.assertEqual(len({id(some) for some in lists}), len(lists))
        for _, ways in first[1]:
            ways.clear()
        first[1].clear()
        self.assertEqual(table(patterns), second)

    def test_the_kinds_of_the_answer(self):
        made = table([one("ab"), many(one("b"))])
        self.assertIs(type(made), tuple)
        signs, rows = made
        self.assertIs(type(signs), str)
        self.assertIs(type(rows), list)
        for made_row in rows:
            self.assertIs(type(made_row), tuple)
            told, ways = made_row
            self.assertIn(type(told), (int, type(None)))
            self.assertIs(type(ways), list)
            self.assertEqual(len(ways), len(signs))

    def test_an_answer_does_not_hang_on_earlier_ones(self):
        patterns = [row(one("a"))]
        self.assertEqual(table(patterns), ("a", [(None, [1]), (0, [None])]))
        patterns[0][1].append(one("a"))
        self.assertEqual(table(patterns), ("a", [(None, [1]), (None, [2]), (0, [None])]))


class TheGreatestPatterns(Refused):
    def test_sixty_leaves_of_all_signs(self):
        with soon():
            self.assertEqual(len(table([line(ALL_SIGNS, 60)])[1]), 61)
            self.assertEqual(len(table([row(*[maybe(one(ALL_SIGNS))] * 60)])[1]), 61)
            self.assertEqual(len(table([many(line(ALL_SIGNS, 60))])[1]), 60)
            self.assertEqual(table([many(row(*[many(one(ALL_SIGNS))] * 60))])[1], [(0, [0] * 96)])

    def test_a_refusal_comes_soon(self):
        with soon():
            self.check_refused([tail(ALL_SIGNS, 58)], TooGreat)
            self.check_refused([tail("ab", 28), tail("ba", 28)], TooGreat)
            self.check_refused([many(line("a", length)) for length in (2, 3, 5, 7, 11, 13, 17)], TooGreat)

    def test_rows_of_no_parts_shared_twelve_deep(self):
        pattern, other = EMPTY, row(EMPTY)
        for _ in range(9):
            pattern, other = ("row", [pattern, other] * 30), ("or", [other, pattern] * 30)
        with soon():
            self.assertEqual(table([row(pattern, other), one("a")]), ("a", [(0, [1]), (1, [None])]))


if __name__ == "__main__":
    unittest.main()
