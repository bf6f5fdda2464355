"""Point 1, and the limits of point 3: all that is allowed is answered, and soon; what is handed in stays as it was."""

import copy
import unittest

from rulescan.errors import RuleError, TooMany
from rulescan.patterns import signs_of, tells, told_of
from rulescan.trying import tried
from tests.helping import ALL_SIGNS, EMPTY, either, many, maybe, one, row, soon, spelt


def nested(kinds, pattern, beside=()):
    """The pattern within others of these kinds, the last one outermost."""
    for kind in kinds:
        pattern = (kind, [*beside, pattern] if kind in ("row", "or") else pattern)
    return pattern


class Depth(unittest.TestCase):
    def test_many_in_many_twelve_deep(self):
        pattern = nested(["many"] * 11, one("a"))
        with soon():
            self.assertIs(tells(pattern, "a" * 61), True)
            self.assertIs(tells(pattern, "a" * 60 + "b"), False)
            self.assertEqual(told_of([pattern], "a" * 38), 0)
            self.assertIsNone(told_of([pattern], "a" * 37 + "b"))
            self.assertEqual(tried([pattern], "a" * 80), [(0, 0, 80)])
            self.assertEqual(tried([pattern], "b" + "a" * 79), [(None, 0, 1), (0, 1, 80)])

    def test_many_of_maybe_in_turn_twelve_deep(self):
        pattern = nested(["maybe", "many"] * 5 + ["maybe"], one("ab"))
        with soon():
            self.assertIs(tells(pattern, "ab" * 30 + "a"), True)
            self.assertIs(tells(pattern, "ab" * 30 + "c"), False)
            self.assertEqual(tried([pattern], "ab" * 39 + "ca"), [(0, 0, 78), (None, 78, 79), (0, 79, 80)])

    def test_many_rows_of_many_twelve_deep(self):
        pattern = nested(["many", "row"] * 5 + ["many"], one("a"), beside=[many(one("a"))])
        with soon():
            self.assertIs(tells(pattern, "a" * 61), True)
            self.assertIs(tells(pattern, "a" * 60 + "b"), False)
            self.assertEqual(told_of([pattern] * 8, "a" * 38), 0)
            self.assertEqual(tried([pattern], "a" * 79 + "b"), [(0, 0, 79), (None, 79, 80)])

    def test_many_in_many_with_an_end_that_never_comes(self):
        pattern = row(nested(["many", "row"] * 5, one("a"), beside=[many(one("a"))]), one("b"))
        with soon():
            self.assertIs(tells(pattern, "a" * 61), False)
            self.assertIs(tells(pattern, "a" * 60 + "b"), True)
            self.assertEqual(tried([pattern], "a" * 80), [(None, at, at + 1) for at in range(80)])

    def test_rows_choices_and_no_parts_twelve_deep(self):
        with soon():
            self.assertIs(tells(nested(["row"] * 11, one("a")), "a"), True)
            self.assertIs(tells(nested(["or"] * 11, one("a"), beside=[one("b")]), "b"), True)
            self.assertIs(tells(nested(["row"] * 11, one("a"), beside=[one("b")]), "b" * 11 + "a"), True)
            self.assertIs(tells(nested(["row", "many"] * 5, EMPTY, beside=[EMPTY]), ""), True)
            self.assertIs(tells(nested(["row", "many"] * 5, EMPTY, beside=[EMPTY]), "a"), False)

    def test_choices_of_the_same_in_one_another(self):
        pattern = one("a")
        for _ in range(4):
            pattern = many(either(pattern, row(pattern, maybe(one("a")))))
        with soon():
            self.assertIs(tells(pattern, "a" * 60 + "b"), False)
            self.assertIs(tells(pattern, "a" * 61), True)


class Width(unittest.TestCase):
    def test_sixty_leaves_that_may_all_be_left_out(self):
        pattern = row(*[maybe(one("a"))] * 60)
        with soon():
            self.assertIs(tells(pattern, "a" * 60), True)
            self.assertIs(tells(pattern, "a" * 61), False)
            self.assertEqual(told_of([pattern], "a" * 38), 0)
            self.assertEqual(tried([pattern], "a" * 80), [(0, 0, 60), (0, 60, 80)])

    def test_sixty_leaves_each_many_times(self):
        pattern = many(row(*[many(one("ab"))] * 60))
        with soon():
            self.assertIs(tells(pattern, "ab" * 30 + "a"), True)
            self.assertIs(tells(pattern, "ab" * 30 + "c"), False)
            self.assertEqual(tried([row(pattern)], "ab" * 40), [(0, 0, 80)])

    def test_sixty_leaves_with_an_end_that_never_comes(self):
        pattern = row(*[many(one("a"))] * 59, one("b"))
        with soon():
            self.assertIs(tells(pattern, "a" * 61), False)
            self.assertEqual(tried([pattern], "a" * 80), [(None, at, at + 1) for at in range(80)])

    def test_sixty_choices_of_all_signs(self):
        pattern = many(either(*[one(ALL_SIGNS)] * 60))
        text = (ALL_SIGNS * 2)[60:140]
        with soon():
            self.assertEqual(signs_of([pattern]), "".join(sorted(ALL_SIGNS)))
            self.assertIs(tells(pattern, text[:61]), True)
            self.assertEqual(told_of([pattern], text[:38]), 0)
            self.assertEqual(tried([pattern], text), [(0, 0, 80)])

    def test_eight_patterns_and_full_lengths(self):
        patterns = [row(*[maybe(one("ab"))] * 6, one("c")) for _ in range(7)] + [many(one("abd"))]
        with soon():
            self.assertEqual(told_of(patterns, "ab" * 19), 7)
            self.assertIsNone(told_of(patterns, "ab" * 18 + "ac"))
            self.assertEqual(tried(patterns, "ab" * 40), [(7, 0, 80)])
            self.assertEqual(tried(patterns, "aaac" * 20), [(0, at, at + 4) for at in range(0, 80, 4)])

    def test_longer_texts_raise_nothing(self):
        with soon():
            self.assertIs(tells(many(one("a")), "a" * 70), True)
            self.assertEqual(told_of([many(one("a"))], "a" * 45), 0)
            self.assertEqual(tried([one("a")], "a" * 90), [(0, at, at + 1) for at in range(90)])


class SharedParts(unittest.TestCase):
    def test_rows_of_no_parts_sixty_times_at_each_depth(self):
        pattern = EMPTY
        for kind in ["row", "or"] * 5 + ["row"]:
            pattern = (kind, [pattern] * 60)
        with soon():
            self.assertIs(tells(pattern, ""), True)
            self.assertIs(tells(pattern, "a"), False)
            self.assertEqual(signs_of([pattern, one("a")]), "a")
            self.assertEqual(tried([pattern, one("a")], "ab"), [(1, 0, 1), (None, 1, 2)])

    def test_two_unlike_parts_without_leaves_in_turn_at_each_depth(self):
        pattern, other = EMPTY, row(EMPTY)
        for _ in range(9):
            pattern, other = ("row", [pattern, other] * 30), ("or", [other, pattern] * 30)
        with soon():
            self.assertIs(tells(row(pattern, other), ""), True)
            self.assertIs(tells(row(other, one("a"), pattern), "a"), True)
            self.assertEqual(signs_of([pattern, other, one("a")]), "a")
            self.assertEqual(tried([other, one("a")], "ab"), [(1, 0, 1), (None, 1, 2)])

    def test_leaves_sixty_times_at_each_depth(self):
        pattern = one("a")
        for _ in range(11):
            pattern = ("row", [pattern] * 60)
        with soon():
            self.assertRaises(TooMany, tells, pattern, "a")
            self.assertRaises(TooMany, tried, [pattern], "a")

    def test_parts_without_leaves_beside_those_with(self):
        pattern = row(EMPTY, EMPTY, one("a"), EMPTY, row(EMPTY), one("b"), row(EMPTY), row(EMPTY))
        self.assertIs(tells(pattern, "ab"), True)
        self.assertIs(tells(pattern, "a"), False)
        self.assertIs(tells(either(one("a"), EMPTY, EMPTY), ""), True)


class WhatIsHandedIn(unittest.TestCase):
    def lists_in(self, patterns):
        """The list, and each list of parts in it."""
        found = [patterns]
        for pattern in patterns:
            while pattern[0] in ("many", "maybe"):
                pattern = pattern[1]
            if pattern[0] in ("row", "or"):
                found.extend(self.lists_in(pattern[1]))
        return found

    def check(self, patterns, text):
        before = copy.deepcopy(patterns)
        lists = self.lists_in(patterns)
        items = [list(some) for some in lists]
        for call in (lambda: signs_of(patterns), lambda: told_of(patterns, text), lambda: tried(patterns, text),
                     lambda: [tells(pattern, text) for pattern in patterns]):
            try:
                call()
            except RuleError:
                pass
            self.assertEqual(patterns, before)
            for some, kept in zip(lists, items):
                self.assertEqual(len(some), len(kept))
                self.assertTrue(all(now is then for now, then in zip(some, kept)))

    def test_it_stays_as_it_was(self):
        patterns = [row(one("a"), many(either(one("b"), row(), maybe(spelt("cd"))))), EMPTY, maybe(row(one("ba")))]
        self.check(patterns, "abcdx")
        self.check(patterns, "")

    def test_it_stays_as_it_was_where_it_is_refused(self):
        self.check([row(one("a"), one("")), either()], "a")
        self.check([row(*[one("a")] * 61)], "a")
        self.check([one("a")] * 9, "a")

    def test_an_answer_does_not_hang_on_earlier_ones(self):
        patterns = [row(one("a"))]
        self.assertEqual(told_of(patterns, "ab"), None)
        patterns[0][1].append(one("b"))
        self.assertEqual(told_of(patterns, "ab"), 0)
        self.assertEqual(signs_of(patterns), "ab")
        patterns.insert(0, many(one("ab")))
        self.assertEqual(tried(patterns, "abab"), [(0, 0, 4)])


if __name__ == "__main__":
    unittest.main()
