"""Whole numbers, and exact fractions as tuples (top, bottom) in lowest terms."""

from tiercask.errors import NoNumber


def is_whole(thing):
    # Python counts True and False among the ints; the program does not.
    return isinstance(thing, int) and not isinstance(thing, bool)


def is_fraction(thing):
    if not isinstance(thing, tuple) or len(thing) != 2:
        return False
    top = thing[0]
    bottom = thing[1]
    if not is_whole(top) or not is_whole(bottom) or bottom < 1:
        return False
    return common_divisor(top, bottom) == 1


def common_divisor(top, bottom):
    # Each rest has the sign of what it was divided by, so what is left at last
    # has the sign of the bottom: divided by it, the bottom comes out above 0.
    while bottom != 0:
        rest = top % bottom
        top = bottom
        bottom = rest
    return top


def fraction(top, bottom):
    if not is_whole(top) or not is_whole(bottom):
        raise NoNumber("a fraction is made of two whole numbers")
    if bottom == 0:
        raise NoNumber("a fraction has no bottom of 0")
    divisor = common_divisor(top, bottom)
    return (top // divisor, bottom // divisor)


def plus(one, other):
    # Fractions are in lowest terms, so only what both bottoms share can cut the sum:
    # dividing by that first keeps the numbers small that are divided.
    shared = common_divisor(one[1], other[1])
    rest = one[1] // shared
    top = one[0] * (other[1] // shared) + other[0] * rest
    divisor = common_divisor(top, shared)
    return (top // divisor, rest * (other[1] // divisor))


def minus(one, other):
    return plus(one, (0 - other[0], other[1]))


def times(one, other):
    # Likewise only a top and the other one's bottom can be cut.
    left = common_divisor(one[0], other[1])
    right = common_divisor(other[0], one[1])
    return ((one[0] // left) * (other[0] // right), (one[1] // right) * (other[1] // left))


def over(one, other):
    if other[0] == 0:
        raise NoNumber("nothing is divided by 0")
    # A bottom below 0 comes out above 0, as what is divided by has its sign.
    return times(one, (other[1], other[0]))


def under(one, other):
    return one[0] * other[1] < other[0] * one[1]


def sum_of(some):
    whole = (0, 1)
    for share in some:
        whole = plus(whole, share)
    return whole
