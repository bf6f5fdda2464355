"""Point 3: what is refused, and by which error."""

import unittest

from rulescan.errors import NoPattern, RuleError, TooMany
from rulescan.patterns import signs_of, tells, told_of
from rulescan.trying import tried
from tests.helping import EMPTY, either, many, maybe, one, row, spelt

FAULTS = {
    "a leaf without signs": one(""),
    "a sign twice, side by side": one("aab"),
    "a sign twice, apart": one("abca"),
    "a blank twice": one("  "),
    "a line end twice": one("\na\n"),
    "an or of no parts": either(),
}


def deep(pattern):
    """The pattern twelve deep, beside patterns without a fault."""
    for kind in ("many", "row", "or", "maybe", "row", "many", "or", "row", "maybe", "row", "or"):
        pattern = (kind, [one("xy"), pattern, EMPTY] if kind in ("row", "or") else pattern)
    return pattern


def of_list(patterns):
    """The three functions that take a list, each with a text."""
    return [
        ("signs_of", lambda: signs_of(patterns)),
        ("told_of", lambda: told_of(patterns, "a")),
        ("told_of", lambda: told_of(patterns, "")),
        ("tried", lambda: tried(patterns, "ab")),
        ("tried", lambda: tried(patterns, "")),
    ]


def of_one(pattern):
    return [("tells", lambda: tells(pattern, "a")), ("tells", lambda: tells(pattern, ""))]


class Refusals(unittest.TestCase):
    def check(self, calls, error):
        """Each call is refused by just this class, and is caught by each of those above."""
        for name, call in calls:
            with self.subTest(name):
                for above in (error, RuleError, ValueError):
                    with self.assertRaises(above) as caught:
                        call()
                    self.assertIs(type(caught.exception), error)

    def allowed(self, calls):
        for name, call in calls:
            with self.subTest(name):
                call()


class FaultyPatterns(Refusals):
    def test_alone(self):
        for what, fault in FAULTS.items():
            with self.subTest(what):
                self.check(of_list([fault]) + of_one(fault), NoPattern)

    def test_directly_in_each_kind(self):
        for what, fault in FAULTS.items():
            for pattern in (row(fault), either(fault), many(fault), maybe(fault)):
                with self.subTest(what, kind=pattern[0]):
                    self.check(of_list([pattern]) + of_one(pattern), NoPattern)

    def test_beside_parts_without_a_fault(self):
        for what, fault in FAULTS.items():
            for parts in ([fault, one("a")], [one("a"), fault], [EMPTY, fault, EMPTY], [one("a"), fault, one("b")]):
                for kind in ("row", "or"):
                    with self.subTest(what, kind=kind, parts=parts):
                        self.check(of_list([(kind, parts)]) + of_one((kind, parts)), NoPattern)

    def test_deep_within_other_patterns(self):
        for what, fault in FAULTS.items():
            with self.subTest(what):
                self.check(of_list([deep(fault)]) + of_one(deep(fault)), NoPattern)

    def test_beside_patterns_without_a_fault(self):
        good = [one("a"), many(one("ab")), EMPTY, spelt("ab")]
        for what, fault in FAULTS.items():
            for at in range(len(good) + 1):
                with self.subTest(what, at=at):
                    self.check(of_list(good[:at] + [fault] + good[at:]), NoPattern)
            with self.subTest(what, at="deep in the last"):
                self.check(of_list(good + [deep(fault)]), NoPattern)

    def test_where_no_text_could_come_to_the_fault(self):
        self.check(of_one(row(one("z"), either())) + of_list([one("a"), row(one("z"), one(""))]), NoPattern)

    def test_what_looks_alike_but_has_no_fault(self):
        self.allowed(of_list([row(one("a"), one("a"))]) + of_one(either(one("a"), one("a"))))
        self.allowed(of_list([EMPTY]) + of_one(EMPTY) + of_list([one("aA"), one("a")]))
        self.allowed(of_list([deep(EMPTY)]) + of_one(deep(one("a"))))


class HowManyPatterns(Refusals):
    def test_none(self):
        self.check(of_list([]), TooMany)

    def test_one_and_eight(self):
        self.allowed(of_list([one("a")]))
        self.allowed(of_list([one("a")] * 8))
        self.allowed(of_list([EMPTY] * 8))
        self.assertEqual(told_of([one("b")] * 7 + [one("a")], "a"), 7)

    def test_nine_and_more(self):
        self.check(of_list([one("a")] * 9), TooMany)
        self.check(of_list([one(sign) for sign in "abcdefghi"]), TooMany)
        self.check(of_list([EMPTY] * 9), TooMany)
        self.check(of_list([one("a")] * 20), TooMany)


class HowManyLeaves(Refusals):
    def test_sixty_in_one_pattern(self):
        for kind in ("row", "or"):
            with self.subTest(kind):
                pattern = (kind, [one("ab")] * 60)
                self.allowed(of_list([pattern]) + of_one(pattern))

    def test_sixty_one_in_one_pattern(self):
        for pattern in (row(row(*[one("ab")] * 60), one("a")), row(one("a"), either(*[one("ab")] * 60)),
                        many(row(*[maybe(row(one("a"), one("b")))] * 30, one("c"))), row(*[one("a")] * 61)):
            with self.subTest(pattern=pattern):
                self.check(of_list([pattern]) + of_one(pattern), TooMany)

    def test_sixty_in_several_patterns(self):
        self.allowed(of_list([spelt("abcde")] * 4 + [spelt("0123456789")] * 4))
        self.allowed(of_list([one("a"), row(*[one("b")] * 59)]))

    def test_sixty_one_in_several_patterns(self):
        self.check(of_list([spelt("abcde")] * 4 + [spelt("0123456789")] * 3 + [spelt("0123456789a")]), TooMany)
        self.check(of_list([row(*[one("b")] * 60), one("a")]), TooMany)
        self.check(of_list([one("a"), row(*[one("b")] * 60)]), TooMany)

    def test_rows_of_no_parts_are_no_leaves(self):
        pattern = row(*[row(one("a"), EMPTY, EMPTY)] * 60)
        self.allowed(of_list([pattern]) + of_one(pattern))

    def test_signs_are_not_counted(self):
        pattern = row(*[one("abcdefghij")] * 60)
        self.allowed(of_list([pattern]) + of_one(pattern))

    def test_each_pattern_by_itself_for_tells(self):
        self.assertIs(tells(row(*[one("a")] * 60), "a" * 60), True)
        self.assertIs(tells(row(*[one("a")] * 60), "a" * 59), False)
        self.assertIs(tells(row(*[one("a")] * 60), "a" * 61), False)


class SeveralFaults(Refusals):
    def test_any_of_the_faults_may_be_told(self):
        both = [row(*[one("a")] * 61), one("")]
        for patterns in (both, both[::-1], [one("")] * 9, [either()] * 61):
            for name, call in of_list(patterns):
                with self.subTest(name, patterns=patterns), self.assertRaises((NoPattern, TooMany)):
                    call()


if __name__ == "__main__":
    unittest.main()
