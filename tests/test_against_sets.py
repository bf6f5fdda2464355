"""Points 2, 4, 5, 6 and 10 for patterns made by chance, compared with the texts that point 2 names, one by one."""

import random
import unittest

from rulescan.errors import TooMany
from rulescan.patterns import signs_of, tells, told_of
from rulescan.trying import tried
from tests.helping import all_texts, cut_by_sets, some_pattern, texts_of, told_by_sets


def signs_in(pattern):
    kind, inner = pattern
    if kind == "one":
        return set(inner)
    parts = inner if kind in ("row", "or") else [inner]
    return {sign for part in parts for sign in signs_in(part)}


class AgainstSets(unittest.TestCase):
    def lists(self, many_lists, signs, deep):
        """Lists of patterns made by chance: the same ones in each run."""
        chance = random.Random(20)
        for _ in range(many_lists):
            patterns = [some_pattern(chance, signs, deep) for _ in range(chance.randrange(1, 5))]
            try:
                signs_of(patterns)
            except TooMany:
                continue
            yield chance, patterns

    def test_all_short_texts(self):
        texts = all_texts("abc", 5)
        for _, patterns in self.lists(150, "ab", 4):
            sets = [texts_of(pattern, 5) for pattern in patterns]
            for text in texts:
                self.assertEqual(told_of(patterns, text), told_by_sets(sets, text), (patterns, text))

    def test_each_pattern_by_itself(self):
        texts = all_texts("ab~", 4)
        for _, patterns in self.lists(100, "ab~", 5):
            for pattern in patterns:
                told = texts_of(pattern, 4)
                for text in texts:
                    self.assertIs(tells(pattern, text), text in told, (pattern, text))

    def test_cuts(self):
        for chance, patterns in self.lists(150, "ab", 4):
            sets = [texts_of(pattern, 8) for pattern in patterns]
            for _ in range(20):
                text = "".join(chance.choice("aabbc") for _ in range(chance.randrange(9)))
                self.assertEqual(tried(patterns, text), cut_by_sets(sets, text), (patterns, text))

    def test_signs(self):
        for _, patterns in self.lists(200, "za~ \n\t0", 4):
            expected = {sign for pattern in patterns for sign in signs_in(pattern)}
            self.assertEqual(signs_of(patterns), "".join(sorted(expected)), patterns)


if __name__ == "__main__":
    unittest.main()
