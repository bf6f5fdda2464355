"""Where texts lead in a table, and the cut of a text by a table."""


def walk(made, text):
    """The number of the row to which a text leads from row nought, or None."""
    row = 0
    for sign in text:
        row = _led(made, row, sign)
        if row is None:
            return None
    return row


def word(made, text, at):
    """The word at a place, a tuple (number, end), or None."""
    _, rows = made
    longest = None
    row = 0
    for end in range(at, len(text)):
        row = _led(made, row, text[end])
        if row is None:
            break
        told, _ = rows[row]
        if told is not None:
            longest = (told, end + 1)
    return longest


def cut(made, text):
    """The list of triples (number, begin, end) into which a text is cut."""
    pieces = []
    at = 0
    while at < len(text):
        number, end = word(made, text, at) or (None, at + 1)
        pieces.append((number, at, end))
        at = end
    return pieces


def _led(made, row, sign):
    """The number of the row to which a sign leads from a row, or None."""
    signs, rows = made
    place = signs.find(sign)
    if place < 0:
        return None
    _, ways = rows[row]
    return ways[place]
