"""Values that lie in a zone: filled ones, near ones, and ones that part two zones."""

from zonewalk.bounds import beyond, is_open, number_of
from zonewalk.fractions import fraction, greatest_divisor
from zonewalk.leasts import least_values, limits_of, unit_of
from zonewalk.zones import is_wider


def zone_bounds(zone):
    bounds = []
    for i, row in enumerate(zone):
        for j, bound in enumerate(row):
            if i != j and bound is not None:
                bounds.append((i, j, bound))
    return bounds


def values_by(zone, more_limits, unit):
    # The zone is not empty, and what more is asked leaves some of its values, so there are least ones.
    many = len(zone) - 1
    found = least_values(many, limits_of(zone_bounds(zone), unit) + more_limits)
    return [fraction(value, unit) for value in found[1:]]


def common_bottom(values):
    bottom = 1
    for value in values:
        bottom = bottom * value[1] // greatest_divisor(bottom, value[1])
    return bottom


def units(value, unit):
    return value[0] * (unit // value[1])


def filled(zone, known):
    unit = unit_of(len(zone) - 1, common_bottom(list(known.values())))
    # At least what is known is enough: it is of some values of the zone, so the least ones are no greater there.
    limits = [(0, place, -units(value, unit)) for place, value in known.items()]
    return values_by(zone, limits, unit)


def parting(one, other):
    for i, row in enumerate(one):
        for j, bound in enumerate(row):
            if is_wider(bound, other[i][j]):
                unit = unit_of(len(one) - 1, 1)
                return values_by(one, limits_of([(j, i, beyond(other[i][j]))], unit), unit)
    return None


def near_values(zone, i, j, near):
    unit = unit_of(len(zone) - 1, near[1])
    bound = zone[i][j]
    if bound is None:
        most = -units(near, unit)
    elif is_open(bound):
        # One unit less, as the difference and near together are more than the number, not just it.
        most = units(near, unit) - number_of(bound) * unit - 1
    else:
        most = -number_of(bound) * unit
    return values_by(zone, [(j, i, most)], unit)
