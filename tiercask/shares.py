"""Whole numbers, and exact fractions as tuples (top, bottom) in lowest terms."""

from tiercask.errors import NoNumber


def is_whole(thing):
    # Python counts True and False among the ints; the program does not.
    return isinstance(thing, int) and not isinstance(thing, bool)


def is_fraction(thing):
    if not isinstance(thing, tuple) or len(thing) != 2:
        return False
    top = thing[0]
    bottom = thing[1]
    if not is_whole(top) or not is_whole(bottom) or bottom < 1:
        return False
    return common_divisor(top, bottom) == 1


def common_divisor(top, bottom):
    # Each rest has the sign of what it was divided by, so what is left at last
    # has the sign of the bottom: divided by it, the bottom comes out above 0.
    while bottom != 0:
        rest = top % bottom
        top = bottom
        bottom = rest
    return top


def fraction(top, bottom):
    if not is_whole(top) or not is_whole(bottom):
        raise NoNumber("a fraction is made of two whole numbers")
    if bottom == 0:
        raise NoNumber("a fraction has no bottom of 0")
    divisor = common_divisor(top, bottom)
    return (top // divisor, bottom // divisor)


def plus(one, other):
    return fraction(one[0] * other[1] + other[0] * one[1], one[1] * other[1])


def minus(one, other):
    return fraction(one[0] * other[1] - other[0] * one[1], one[1] * other[1])


def times(one, other):
    return fraction(one[0] * other[0], one[1] * other[1])


def over(one, other):
    # A quotient by (0, 1) has a bottom of 0, so it is refused as it is made.
    return fraction(one[0] * other[1], one[1] * other[0])


def under(one, other):
    return one[0] * other[1] < other[0] * one[1]


def sum_of(some):
    whole = (0, 1)
    for share in some:
        whole = plus(whole, share)
    return whole
