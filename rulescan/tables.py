"""The table of patterns."""

from rulescan.errors import TooGreat
from rulescan.leasts import least
from rulescan.leaves import BEGINNING, leaves_of

MOST_SETS = 63


def table(patterns):
    """The least table behind which just that is told which the patterns tell."""
    leaves = leaves_of(patterns)
    signs = leaves.all_signs()
    numbers = {}
    met = [BEGINNING]
    rows = []
    while len(rows) < len(met):
        here = met[len(rows)]
        ways = []
        for sign in signs:
            there = leaves.step(here, sign)
            if there != 0 and there not in numbers:
                numbers[there] = len(met)
                met.append(there)
            ways.append(numbers.get(there))
        # The beginning is among those met, but it is no set of leaves.
        if len(met) - 1 > MOST_SETS:
            raise TooGreat("more than sixty-three sets of leaves are come to")
        rows.append((leaves.told(here), ways))
    return least((signs, rows))
