"""Whole numbers, and fractions: tuples (top, bottom) in lowest terms, bottom from 1 on."""

from zonewalk.errors import NoNumber


def is_whole(thing):
    # True and False are ints to Python, but no numbers here.
    return isinstance(thing, int) and not isinstance(thing, bool)


def greatest_divisor(one, other):
    greater = abs(one)
    lesser = abs(other)
    while lesser != 0:
        rest = greater % lesser
        greater = lesser
        lesser = rest
    return greater


def is_fraction(thing):
    if not isinstance(thing, tuple) or len(thing) != 2:
        return False
    if not is_whole(thing[0]) or not is_whole(thing[1]):
        return False
    return thing[1] >= 1 and greatest_divisor(thing[0], thing[1]) == 1


def fraction(top, bottom=1):
    # The words name no number: Python refuses to write out very long ones.
    if not is_whole(top) or not is_whole(bottom):
        raise NoNumber("a fraction is made of two whole numbers")
    if bottom == 0:
        raise NoNumber("the bottom of a fraction is not 0")
    divisor = greatest_divisor(top, bottom)
    if bottom < 0:
        divisor = -divisor
    return (top // divisor, bottom // divisor)


def plus(one, other):
    return fraction(one[0] * other[1] + other[0] * one[1], one[1] * other[1])


def minus(one, other):
    return fraction(one[0] * other[1] - other[0] * one[1], one[1] * other[1])


def half(one):
    return fraction(one[0], 2 * one[1])


def under(one, other):
    # Bottoms are above 0, so both sides may be multiplied by them.
    return one[0] * other[1] < other[0] * one[1]
