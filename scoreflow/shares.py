"""Shares: exact fractions from nought on, as pairs (top, bottom) in lowest terms."""

from scoreflow.errors import NoShare

NOUGHT = (0, 1)
ONE = (1, 1)


def common_divisor(one, other):
    while other > 0:
        rest = one % other
        one = other
        other = rest
    return one


# The errors' words hold no numbers: Python refuses to write out very long ones.
def share(top, bottom):
    if top < 0:
        raise NoShare("the top of a share is below 0")
    if bottom < 1:
        raise NoShare("the bottom of a share is below 1")
    divisor = common_divisor(top, bottom)
    return (top // divisor, bottom // divisor)


# What can still divide the sum's top and bottom divides the two bottoms too: looked for there, it is found sooner.
def added(one, other):
    divisor = common_divisor(one[1], other[1])
    top = one[0] * (other[1] // divisor) + other[0] * (one[1] // divisor)
    left = common_divisor(top, divisor)
    return (top // left, one[1] // divisor * (other[1] // left))


def lessened(one, other):
    if is_less(one, other):
        raise NoShare("a difference of shares is below nought")
    return share(one[0] * other[1] - other[0] * one[1], one[1] * other[1])


# Each top has no divisor in common with its own bottom: only crosswise is there anything to take out.
def timed(one, other):
    first = share(one[0], other[1])
    second = share(other[0], one[1])
    return (first[0] * second[0], first[1] * second[1])


def parted(one, other):
    if other == NOUGHT:
        raise NoShare("a share is parted by nought")
    return timed(one, (other[1], other[0]))


# Of pairs of shares. Lowest terms are looked for at the end alone: for long numbers nothing takes longer than that.
def sum_of_products(pairs):
    top = 0
    bottom = 1
    for one, other in pairs:
        if one != NOUGHT and other != NOUGHT:
            below = one[1] * other[1]
            divisor = common_divisor(bottom, below)
            top = top * (below // divisor) + one[0] * other[0] * (bottom // divisor)
            bottom = bottom // divisor * below
    return share(top, bottom)


def is_less(one, other):
    return one[0] * other[1] < other[0] * one[1]
