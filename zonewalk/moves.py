"""Moves of narrow zones: met, waited, put back, freed, folded. Each tells a new narrow zone, or None."""

from zonewalk.bounds import added, at_most, below, number_of
from zonewalk.looks import look_bounds, stands_so
from zonewalk.zones import is_wider, narrowest, row_over


def holds(looks, values):
    return all([stands_so(values[place - 1], word, number) for place, word, number in looks])


def met(zone, looks):
    rows = copied(zone)
    for place, word, number in looks:
        for i, j, bound in look_bounds(place, 0, word, number):
            rows = narrowed(rows, i, j, bound)
            if rows is None:
                return None
    return rows


def narrowed(zone, i, j, bound):
    # A narrow zone with one bound more: only what goes by way of that bound can become narrower.
    if not is_wider(zone[i][j], bound):
        return zone
    ring = added(bound, zone[j][i])
    if ring is not None and ring < at_most(0):
        return None
    return [row if row[i] is None else row_over(row, added(row[i], bound), zone[j]) for row in zone]


def copied(zone):
    return [list(row) for row in zone]


def waited(zone):
    rows = copied(zone)
    for place in range(1, len(rows)):
        rows[place][0] = None
    return rows


def put_back(zone, places):
    # A watch that is 0 stands to every place just as place 0 does.
    sources = [0 if place in places else place for place in range(len(zone))]
    return [[zone[i][j] for j in sources] for i in sources]


def freed(zone, place):
    rows = copied(zone)
    for other in range(len(rows)):
        if other != place:
            rows[place][other] = None
    return rows


def folded(zone, mosts):
    told = [0] + mosts
    rows = [[folded_bound(zone, told, i, j) for j in range(len(zone))] for i in range(len(zone))]
    return narrowest(rows)


def folded_bound(zone, mosts, i, j):
    bound = zone[i][j]
    if bound is None or i == j:
        return bound
    number = number_of(bound)
    if mosts[i] is not None and number > mosts[i]:
        return None
    if mosts[j] is not None and number < -mosts[j]:
        return below(-mosts[j])
    return bound
