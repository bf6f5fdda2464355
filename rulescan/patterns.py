"""Which texts patterns tell."""

from rulescan.leaves import BEGINNING, leaves_of


def signs_of(patterns):
    """The text of all signs of the leaves, each once, in order."""
    leaves = leaves_of(patterns)
    return leaves.all_signs()


def tells(pattern, text):
    """Whether a pattern tells a text."""
    return told_of([pattern], text) is not None


def told_of(patterns, text):
    """The number of the first pattern that tells a text, or None."""
    leaves = leaves_of(patterns)
    here = BEGINNING
    for sign in text:
        here = leaves.step(here, sign)
    return leaves.told(here)
