"""What several tests need: short ways to write patterns, and slow, plain answers to compare with."""

import signal
from contextlib import contextmanager

EMPTY = ("row", [])

# All signs of point 1: from the blank to ~ but the percent sign, and line end and tab.
ALL_SIGNS = "".join(chr(code) for code in range(32, 127) if chr(code) != "%") + "\n\t"


def one(signs):
    return ("one", signs)


def row(*parts):
    return ("row", list(parts))


def either(*parts):
    return ("or", list(parts))


def many(part):
    return ("many", part)


def maybe(part):
    return ("maybe", part)


def spelt(word):
    """The row of leaves that tells one word alone."""
    return row(*[one(sign) for sign in word])


def put_together(heads, tails, most):
    return {head + tail for head in heads for tail in tails if len(head + tail) <= most}


def texts_of(pattern, most):
    """Point 2, word for word: all texts of at most so many signs that a pattern tells."""
    kind, inner = pattern
    if kind == "one":
        return {sign for sign in inner if most > 0}
    if kind == "maybe":
        return {""} | texts_of(inner, most)
    if kind == "or":
        return {text for part in inner for text in texts_of(part, most)}
    found = {""}
    if kind == "row":
        for part in inner:
            found = put_together(found, texts_of(part, most), most)
        return found
    single = texts_of(inner, most)
    while True:
        more = found | put_together(found, single, most)
        if more == found:
            return found
        found = more


def told_by_sets(sets, text):
    """Point 4: the number of the first set that has the text, or None."""
    for number, texts in enumerate(sets):
        if text in texts:
            return number
    return None


def cut_by_sets(sets, text):
    """Points 5 and 6: the cut, all stretches at a place tried from the longest on."""
    pieces = []
    at = 0
    while at < len(text):
        piece = (None, at, at + 1)
        for end in range(len(text), at, -1):
            number = told_by_sets(sets, text[at:end])
            if number is not None:
                piece = (number, at, end)
                break
        pieces.append(piece)
        at = piece[2]
    return pieces


def all_texts(signs, most):
    """All texts of at most so many of these signs, the shortest first."""
    texts = [""]
    longest = [""]
    for _ in range(most):
        longest = [text + sign for text in longest for sign in signs]
        texts.extend(longest)
    return texts


def some_pattern(chance, signs, deep):
    """A pattern made by chance, at most so deep, whose leaves have these signs."""
    kind = chance.choice(["one", "one", "row", "or", "many", "maybe"])
    if deep == 0 or kind == "one":
        return one("".join(chance.sample(signs, chance.randrange(1, len(signs) + 1))))
    if kind in ("many", "maybe"):
        return (kind, some_pattern(chance, signs, deep - 1))
    fewest = 1 if kind == "or" else 0
    return (kind, [some_pattern(chance, signs, deep - 1) for _ in range(chance.randrange(fewest, 4))])


@contextmanager
def soon(seconds=20):
    """Fail a test that takes far longer than it may, instead of waiting for it."""
    def late(number, frame):
        raise AssertionError(f"not answered within {seconds} seconds")

    before = signal.signal(signal.SIGALRM, late)
    signal.alarm(seconds)
    try:
        yield
    finally:
        signal.alarm(0)
        signal.signal(signal.SIGALRM, before)
