"""Shares: exact fractions from nought on, as pairs (top, bottom) in lowest terms."""

from scoreflow.errors import NoShare

NOUGHT = (0, 1)
ONE = (1, 1)


def common_divisor(one, other):
    while other > 0:
        rest = one % other
        one = other
        other = rest
    return one


# The errors' words hold no numbers: Python refuses to write out very long ones.
def share(top, bottom):
    if top < 0:
        raise NoShare("the top of a share is below 0")
    if bottom < 1:
        raise NoShare("the bottom of a share is below 1")
    divisor = common_divisor(top, bottom)
    return (top // divisor, bottom // divisor)


def added(one, other):
    return share(one[0] * other[1] + other[0] * one[1], one[1] * other[1])


def lessened(one, other):
    if is_less(one, other):
        raise NoShare("a difference of shares is below nought")
    return share(one[0] * other[1] - other[0] * one[1], one[1] * other[1])


def timed(one, other):
    return share(one[0] * other[0], one[1] * other[1])


def parted(one, other):
    if other == NOUGHT:
        raise NoShare("a share is parted by nought")
    return share(one[0] * other[1], one[1] * other[0])


def is_less(one, other):
    return one[0] * other[1] < other[0] * one[1]
