"""The leaves of patterns, and to which of them a text comes.

The leaves of all patterns together are numbered from one, in the order in
which they stand. A set of leaves is an integer: bit n of it is leaf n. Number
nought is not a leaf but the beginning of a text, so that the empty text
comes to something, too.

A text comes to a leaf where some text begins with it that the leaf's pattern
tells, so that the text's last sign is the leaf's. To see which texts a pattern
tells it is enough to know which leaves may follow each leaf: however patterns
stand in one another, each sign of a text is then looked at once.
"""

from rulescan.errors import NoPattern, TooMany

MOST_PATTERNS = 8
MOST_LEAVES = 60

BEGINNING = 1

# A pattern's shape is a tuple: whether it tells the empty text, the set of
# leaves with which its texts begin, and the set of those with which they end.
BARE = (True, 0, 0)


class Leaves:
    """The leaves of a list of patterns."""

    def __init__(self):
        self.signs = [""]
        self.after = [0]
        self.having = {}
        self.ends = []

    def new_leaf(self, signs):
        """Number one more leaf, and give back the set of it alone."""
        if signs == "":
            raise NoPattern("a leaf has no sign")
        if len(set(signs)) < len(signs):
            raise NoPattern("a leaf has a sign twice")
        # Refused at once, not when all are counted: where parts are shared,
        # a short list may hold more leaves than can ever be counted.
        if len(self.signs) > MOST_LEAVES:
            raise TooMany("there are more than sixty leaves")
        leaf = 1 << len(self.signs)
        self.signs.append(signs)
        self.after.append(0)
        for sign in signs:
            self.having[sign] = self.having.get(sign, 0) | leaf
        return leaf

    def link(self, lasts, firsts):
        """Let each leaf of firsts follow each leaf of lasts."""
        for leaf in members(lasts):
            self.after[leaf] |= firsts

    def step(self, here, sign):
        """The leaves to which one more sign comes from those of a set."""
        follow = 0
        for leaf in members(here):
            follow |= self.after[leaf]
        return follow & self.having.get(sign, 0)

    def all_signs(self):
        """The text of all signs of the leaves, each once, in order."""
        return "".join(sorted(set("".join(self.signs))))

    def told(self, here):
        """The number of the first pattern whose texts may end at a set, or None."""
        for number, ends in enumerate(self.ends):
            if ends & here:
                return number
        return None


def leaves_of(patterns):
    """The leaves of a list of patterns, refused as point 3 tells."""
    if not patterns:
        raise TooMany("there are no patterns")
    if len(patterns) > MOST_PATTERNS:
        raise TooMany("there are more than eight patterns")
    leaves = Leaves()
    for pattern in patterns:
        empty, firsts, lasts = _shape(leaves, pattern)
        leaves.link(BEGINNING, firsts)
        leaves.ends.append((lasts | BEGINNING) if empty else lasts)
    return leaves


def members(some):
    """The numbers in a set, the smallest first."""
    found = []
    while some:
        lowest = some & -some
        found.append(lowest.bit_length() - 1)
        some ^= lowest
    return found


def _shape(leaves, pattern):
    """Number and link the leaves of a pattern, and give back its shape."""
    kind, inner = pattern
    if kind == "one":
        leaf = leaves.new_leaf(inner)
        return False, leaf, leaf
    if kind == "row":
        return _row_shape(leaves, inner)
    if kind == "or":
        return _or_shape(leaves, inner)
    _, firsts, lasts = _shape(leaves, inner)
    if kind == "many":
        leaves.link(lasts, firsts)
    return True, firsts, lasts


def _row_shape(leaves, parts):
    """The shape of a row; the leaves of its parts are linked."""
    empty, firsts, lasts = BARE
    for part_empty, part_firsts, part_lasts in _shapes(leaves, parts):
        leaves.link(lasts, part_firsts)
        if empty:
            firsts |= part_firsts
        if not part_empty:
            lasts = 0
        lasts |= part_lasts
        empty = empty and part_empty
    return empty, firsts, lasts


def _or_shape(leaves, parts):
    """The shape of a choice."""
    if not parts:
        raise NoPattern("an or has no parts")
    empty, firsts, lasts = False, 0, 0
    for part_empty, part_firsts, part_lasts in _shapes(leaves, parts):
        empty = empty or part_empty
        firsts |= part_firsts
        lasts |= part_lasts
    return empty, firsts, lasts


def _shapes(leaves, parts):
    """The shapes of parts in their order.

    Parts without leaves are not walked again where they come again: nothing
    limits how many of them there are, and shared ones (a row of sixty times
    the same row, and so on, twelve deep) would take for ever.
    """
    shapes = []
    bare = []
    for part in parts:
        shape = BARE
        if part not in bare:
            before = len(leaves.signs)
            shape = _shape(leaves, part)
            if len(leaves.signs) == before:
                bare.append(part)
        shapes.append(shape)
    return shapes
