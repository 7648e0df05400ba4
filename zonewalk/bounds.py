"""Bounds: None for no bound, 2 * c + 1 for "at most c", 2 * c for "below c".

So of two bounds that are numbers the lesser one is the narrower one.
"""

from zonewalk.fractions import under


def at_most(number):
    return 2 * number + 1


def below(number):
    return 2 * number


def number_of(bound):
    # Floored, also below 0: -1 is "at most -1".
    return bound // 2


def is_open(bound):
    return bound % 2 == 0


def added(one, other):
    if one is None or other is None:
        return None
    number = number_of(one) + number_of(other)
    if is_open(one) or is_open(other):
        return below(number)
    return at_most(number)


def narrower(one, other):
    if one is None:
        return other
    if other is None:
        return one
    return min(one, other)


def lets(bound, value):
    if bound is None:
        return True
    edge = (number_of(bound), 1)
    if is_open(bound):
        return under(value, edge)
    return not under(edge, value)


def beyond(bound):
    number = number_of(bound)
    if is_open(bound):
        return at_most(-number)
    return below(-number)
