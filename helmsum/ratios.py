"""Exact numbers: tuples (top, bottom) in lowest terms, bottom from 1 on."""

from helmsum.errors import NoNumber

NOUGHT = (0, 1)
ONE = (1, 1)


def is_whole(thing):
    """Whether the thing, whatever it is, is a whole number (a truth is none)."""
    return isinstance(thing, int) and not isinstance(thing, bool)


def common_divisor(one, other):
    """The greatest whole number that divides both; 0 of two noughts."""
    while other != 0:
        rest = one % other
        one = other
        other = rest
    return abs(one)


def common_multiple(wholes):
    """The least whole number above 0 that each of these whole numbers, all above 0, divides."""
    multiple = 1
    for whole in wholes:
        multiple = multiple * (whole // common_divisor(multiple, whole))
    return multiple


def is_number(thing):
    """Whether the thing, whatever it is, is a number."""
    if not isinstance(thing, tuple) or len(thing) != 2:
        return False
    if not is_whole(thing[0]) or not is_whole(thing[1]):
        return False
    return thing[1] >= 1 and common_divisor(thing[0], thing[1]) == 1


def lowest(top, bottom):
    """The number worth top / bottom, of whole numbers, bottom not 0."""
    divisor = common_divisor(top, bottom)
    if bottom < 0:
        divisor = -divisor
    return (top // divisor, bottom // divisor)


def number(top, bottom):
    """The number worth top / bottom; NoNumber where there is none."""
    if not is_whole(top) or not is_whole(bottom) or bottom == 0:
        raise NoNumber()
    return lowest(top, bottom)


def plus(one, other):
    """The sum of two numbers."""
    return lowest(one[0] * other[1] + other[0] * one[1], one[1] * other[1])


def minus(one, other):
    """The one less the other."""
    return lowest(one[0] * other[1] - other[0] * one[1], one[1] * other[1])


def times(one, other):
    """The product of two numbers."""
    return lowest(one[0] * other[0], one[1] * other[1])


def parted(one, other):
    """The one by the other; NoNumber where the other is 0."""
    if other[0] == 0:
        raise NoNumber()
    return lowest(one[0] * other[1], one[1] * other[0])


def under(one, other):
    """Whether the one is worth less than the other."""
    return one[0] * other[1] < other[0] * one[1]
