"""Systems: each unknown is its end and its ways times the unknowns, all added."""

from scoreflow.errors import NoEnd
from scoreflow.shares import NOUGHT, ONE, added, is_less, lessened, parted, timed


# A row holds an unknown's ways and, behind them, its end: what is done to the ways is done to the end too.
def solved(ways, ends):
    rows = [list(ways[k]) + [ends[k]] for k in range(len(ends))]
    for k in range(len(ends)):
        found = without_itself(rows[k], k)
        rows = [found if place == k else put_in(row, k, found) for place, row in enumerate(rows)]
    return [row[-1] for row in rows]


# Here the sum over all rounds from the unknown to itself is taken: it has an end only where one round is below 1.
def without_itself(row, k):
    if not is_less(row[k], ONE):
        raise NoEnd("an unknown's own way to itself is 1 or more")
    left = lessened(ONE, row[k])
    return [parted(way, left) for way in cleared(row, k)]


def put_in(row, k, found):
    way = row[k]
    if way == NOUGHT:
        return row
    return [added(kept, timed(way, more)) for kept, more in zip(cleared(row, k), found)]


def cleared(row, k):
    return row[:k] + [NOUGHT] + row[k + 1:]
