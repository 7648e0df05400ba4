"""Least values, from 0 on, that keep to bounds on their differences; "below" is kept by staying one unit away.

A unit is so small that even a ring with "below" in each of its bounds does not add up to what the ring leaves free.
"""

from zonewalk.bounds import is_open, number_of


def unit_of(many, bottom):
    # Rings come to a whole number over bottom, and have at most as many bounds as there are places.
    return bottom * (many + 1)


def limits_of(bounds, unit):
    return [(i, j, number_of(bound) * unit - (1 if is_open(bound) else 0)) for i, j, bound in bounds]


def least_values(many, limits):
    values = [0] * (many + 1)
    # What keeps to all limits is there behind as many turns as there are places; else they go on rising.
    for turn in range(many + 1):
        if not raise_all(values, limits):
            return values
    return None


def raise_all(values, limits):
    raised = False
    for i, j, most in limits:
        least = values[i] - most
        if least > values[j]:
            values[j] = least
            raised = True
    return raised
