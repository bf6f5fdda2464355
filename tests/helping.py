"""What several tests need: short ways to write patterns, and slow, plain answers to compare with."""

import signal
from contextlib import contextmanager

EMPTY = ("row", [])

# All signs of point 1: from the blank to ~ but the percent sign, and line end and tab.
ALL_SIGNS = "".join(chr(code) for code in range(32, 127) if chr(code) != "%") + "\n\t"


def one(signs):
    return ("one", signs)


def row(*parts):
    return ("row", list(parts))


def either(*parts):
    return ("or", list(parts))


def many(part):
    return ("many", part)


def maybe(part):
    return ("maybe", part)


def spelt(word):
    """The row of leaves that tells one word alone."""
    return row(*[one(sign) for sign in word])


def put_together(heads, tails, most):
    return {head + tail for head in heads for tail in tails if len(head + tail) <= most}


def texts_of(pattern, most):
    """Point 2, word for word: all texts of at most so many signs that a pattern tells."""
    kind, inner = pattern
    if kind == "one":
        return {sign for sign in inner if most > 0}
    if kind == "maybe":
        return {""} | texts_of(inner, most)
    if kind == "or":
        return {text for part in inner for text in texts_of(part, most)}
    found = {""}
    if kind == "row":
        for part in inner:
            found = put_together(found, texts_of(part, most), most)
        return found
    single = texts_of(inner, most)
    while True:
        more = found | put_together(found, single, most)
        if more == found:
            return found
        found = more


def told_by_sets(sets, text):
    """Point 4: the number of the first set that has the text, or None."""
    for number, texts in enumerate(sets):
        if text in texts:
            return number
    return None


def cut_by(told_of_stretch, text):
    """Points 5 and 6: the cut, all stretches at a place tried from the longest on."""
    pieces = []
    at = 0
    while at < len(text):
        piece = (None, at, at + 1)
        for end in range(len(text), at, -1):
            number = told_of_stretch(text[at:end])
            if number is not None:
                piece = (number, at, end)
                break
        pieces.append(piece)
        at = piece[2]
    return pieces


def cut_by_sets(sets, text):
    return cut_by(lambda stretch: told_by_sets(sets, stretch), text)


def all_texts(signs, most):
    """All texts of at most so many of these signs, the shortest first."""
    texts = [""]
    longest = [""]
    for _ in range(most):
        longest = [text + sign for text in longest for sign in signs]
        texts.extend(longest)
    return texts


def check_pieces(case, pieces, text):
    """A cut is a list of triples, side by side from nought to the text's length."""
    case.assertIs(type(pieces), list)
    at = 0
    for piece in pieces:
        case.assertIs(type(piece), tuple)
        case.assertEqual(len(piece), 3)
        case.assertEqual(piece[1], at)
        case.assertGreater(piece[2], at)
        at = piece[2]
    case.assertEqual(at, len(text))


def some_pattern(chance, signs, deep):
    """A pattern made by chance, at most so deep, whose leaves have these signs."""
    kind = chance.choice(["one", "one", "row", "or", "many", "maybe"])
    if deep == 0 or kind == "one":
        return one("".join(chance.sample(signs, chance.randrange(1, len(signs) + 1))))
    if kind in ("many", "maybe"):
        return (kind, some_pattern(chance, signs, deep - 1))
    fewest = 1 if kind == "or" else 0
    return (kind, [some_pattern(chance, signs, deep - 1) for _ in range(chance.randrange(fewest, 4))])


@contextmanager
def soon(seconds=20):
    """Fail a test that takes far longer than it may, instead of waiting for it."""
    def late(number, frame):
        raise AssertionError(f"not answered within {seconds} seconds")

    before = signal.signal(signal.SIGALRM, late)
    signal.alarm(seconds)
    try:
        yield
    finally:
        signal.alarm(0)
        signal.signal(signal.SIGALRM, before)


def beginnings_of(pattern, most):
    """All texts of at most so many signs with which some text begins that a pattern tells.

    Each pattern tells some text, so whatever is begun can be brought to an end.
    """
    kind, inner = pattern
    if kind == "one":
        return {""} | texts_of(pattern, most)
    if kind == "maybe":
        return beginnings_of(inner, most)
    if kind == "or":
        return {text for part in inner for text in beginnings_of(part, most)}
    if kind == "many":
        return put_together(texts_of(pattern, most), beginnings_of(inner, most), most)
    found = {""}
    before = {""}
    for part in inner:
        found |= put_together(before, beginnings_of(part, most), most)
        before = put_together(before, texts_of(part, most), most)
    return found


def row_behind(made, row, text):
    """Point 7, word for word: the row to which a text leads from a row, or None."""
    signs, rows = made
    for sign in text:
        if sign not in signs:
            return None
        row = rows[row][1][list(signs).index(sign)]
        if row is None:
            return None
    return row


def told_behind(made, row, text):
    """What is told behind a text, beginning at a row."""
    last = row_behind(made, row, text)
    return None if last is None else made[1][last][0]


def cut_by_walking(made, text):
    """Point 8."""
    return cut_by(lambda stretch: told_behind(made, 0, stretch), text)


def least_by_texts(made):
    """Point 9: the least table, all short texts tried at each row.

    Texts shorter than there are rows and nowhere are enough to tell rows apart.
    """
    signs, rows = made
    texts = all_texts(signs, len(rows))
    told = [tuple(told_behind(made, row, text) for text in texts) for row in range(len(rows))]
    idle = (None,) * len(texts)
    met = [told[0]]
    found = []
    for kind in met:
        ways = []
        for way in rows[told.index(kind)][1]:
            if way is None or told[way] == idle:
                ways.append(None)
                continue
            if told[way] not in met:
                met.append(told[way])
            ways.append(met.index(told[way]))
        found.append((kind[0], ways))
    return signs, found


def some_table(chance, signs, most, numbers):
    """A table made by chance with at most so many rows, of which one of these numbers or None is told."""
    size = chance.randrange(1, most + 1)
    ends = list(range(size)) + [None] * chance.randrange(1, 4)
    return signs, [(chance.choice(numbers), [chance.choice(ends) for _ in signs]) for _ in range(size)]


def loop(told, signs="a"):
    """The table whose rows lead round in a ring, by each sign, with these things told in turn."""
    return signs, [(number, [(row + 1) % len(told)] * len(signs)) for row, number in enumerate(told)]


def chain(told, signs="a"):
    """The table whose rows lead one to the next and then nowhere, by each sign."""
    ways = [*range(1, len(told)), None]
    return signs, [(number, [way] * len(signs)) for number, way in zip(told, ways)]
