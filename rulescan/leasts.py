"""The least table of a table."""

from rulescan.nowhere import with_nowhere


def least(made):
    """The one least table behind which the same is told as behind this one."""
    signs, _ = made
    rows = with_nowhere(made)
    groups = _groups(rows)
    met = _met(rows, groups)
    numbers = {groups[row]: number for number, row in enumerate(met)}
    # Row nought may be idle itself, and no way may lead to it then.
    numbers[groups[-1]] = None
    kept = []
    for row in met:
        told, ways = rows[row]
        kept.append((told, [numbers[groups[way]] for way in ways]))
    return signs, kept


def _groups(rows):
    """For each row the number of its group: those of one group can be made one."""
    groups = []
    finer = _numbered([told for told, _ in rows])
    # Each round looks one sign further; once a round parts no group, none
    # after it would, however many signs further it looked.
    while finer != groups:
        groups = finer
        finer = _numbered([_mark(groups, at, ways) for at, (_, ways) in enumerate(rows)])
    return groups


def _mark(groups, at, ways):
    """What tells a row apart: its group, and the groups to which its ways lead."""
    return (groups[at], *[groups[way] for way in ways])


def _numbered(marks):
    """For each mark a number, the same for the same, from nought on as they are met."""
    numbers = {}
    for mark in marks:
        numbers.setdefault(mark, len(numbers))
    return [numbers[mark] for mark in marks]


def _met(rows, groups):
    """The first row met of each group that is not idle, and row nought, in their order."""
    met = [0]
    seen = {groups[0], groups[-1]}
    at = 0
    while at < len(met):
        _, ways = rows[met[at]]
        for way in ways:
            if groups[way] not in seen:
                seen.add(groups[way])
                met.append(way)
        at += 1
    return met
