"""Nowhere, as one more row of a table.

Where a text leads nowhere it goes on leading nowhere, and None is told behind
it: nowhere is like an idle row. With it among the rows each sign leads to some
row, and rows are compared with nowhere as they are with one another.
"""


def with_nowhere(made):
    """The rows of a table, and nowhere as the last one; each way is a number."""
    signs, rows = made
    nowhere = len(rows)
    closed = []
    for told, ways in rows:
        closed.append((told, [nowhere if way is None else way for way in ways]))
    closed.append((None, [nowhere] * len(signs)))
    return closed
