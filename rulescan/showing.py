"""The texts that show that a table is least."""

from rulescan.errors import NoRow
from rulescan.nowhere import with_nowhere


def reach(made, row):
    """The first text that leads from row nought to a row."""
    _need_row(made, row)
    text = _first_text(made, (0,), lambda led: led[0] == row)
    if text is None:
        raise NoRow("no text leads to the row")
    return text


def apart(made, one, other):
    """The first text behind which, from two rows, unlike is told, or None."""
    _need_row(made, one)
    _need_row(made, other)
    told = [row_told for row_told, _ in with_nowhere(made)]
    return _first_text(made, (one, other), lambda led: told[led[0]] != told[led[1]])


def _need_row(made, row):
    """Refuse what is no row's number."""
    _, rows = made
    if not 0 <= row < len(rows):
        raise NoRow("there is no such row")


def _first_text(made, begin, found):
    """The first text that leads, from some rows at once, to what is looked for; or None."""
    signs, _ = made
    rows = with_nowhere(made)
    # The shorter texts come first, and of equally long ones those whose signs
    # come first: so what is met first is met behind the text that is asked for.
    texts = {begin: ""}
    met = [begin]
    at = 0
    while at < len(met):
        here = met[at]
        if found(here):
            return texts[here]
        ways = [rows[row][1] for row in here]
        for place, there in enumerate(zip(*ways)):
            if there not in texts:
                texts[there] = texts[here] + signs[place]
                met.append(there)
        at += 1
    return None
