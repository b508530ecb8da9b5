"""Systems: each unknown is its end and its ways times the unknowns, all added."""

from scoreflow.errors import NoEnd
from scoreflow.shares import NOUGHT, ONE, added, is_less, lessened, parted, timed


def solved(ways, ends):
    return [row[0] for row in solved_rows(ways, [[end] for end in ends])]


# Several systems with the same ways at once: each unknown has a row of ends, one for each system, and is told so.
# A row holds an unknown's ways and, behind them, its ends: what is done to the ways is done to the ends too.
def solved_rows(ways, ends):
    rows = [list(ways[k]) + list(ends[k]) for k in range(len(ends))]
    for k in range(len(ends)):
        found = without_itself(rows[k], k)
        rows = [found if place == k else put_in(row, k, found) for place, row in enumerate(rows)]
    return [row[len(ends):] for row in rows]


# Here the sum over all rounds from the unknown to itself is taken: it has an end only where one round is below 1.
def without_itself(row, k):
    if row[k] == NOUGHT:
        return row
    if not is_less(row[k], ONE):
        raise NoEnd("an unknown's own way to itself is 1 or more")
    left = lessened(ONE, row[k])
    return [parted(way, left) for way in cleared(row, k)]


def put_in(row, k, found):
    way = row[k]
    if way == NOUGHT:
        return row
    return [kept if more == NOUGHT else added(kept, timed(way, more)) for kept, more in zip(cleared(row, k), found)]


def cleared(row, k):
    return row[:k] + [NOUGHT] + row[k + 1:]
