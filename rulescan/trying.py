"""The cut of a text by trying all patterns at each place."""

from rulescan.leaves import BEGINNING, leaves_of


def tried(patterns, text):
    """The list of triples (number, begin, end) into which a text is cut."""
    leaves = leaves_of(patterns)
    pieces = []
    at = 0
    while at < len(text):
        piece = _piece(leaves, text, at)
        pieces.append(piece)
        at = piece[2]
    return pieces


def _piece(leaves, text, at):
    """The triple that is cut off at a place: the word there, or one sign."""
    piece = (None, at, at + 1)
    here = BEGINNING
    for end in range(at, len(text)):
        here = leaves.step(here, text[end])
        if here == 0:
            break
        number = leaves.told(here)
        if number is not None:
            piece = (number, at, end + 1)
    return piece
