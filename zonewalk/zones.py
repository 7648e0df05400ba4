"""Zones: square lists of bounds on the differences between watches; place 0 stands for the number 0."""

from zonewalk.bounds import at_most, lets, narrower
from zonewalk.fractions import minus


def nought(many):
    return [[at_most(0) for column in range(many + 1)] for row in range(many + 1)]


def everywhere(many):
    return [[free_bound(i, j) for j in range(many + 1)] for i in range(many + 1)]


def free_bound(i, j):
    # Values are from 0 on, so 0 less a value is at most 0 even where nothing else is asked.
    if i == 0 or i == j:
        return at_most(0)
    return None


def lies_in(zone, values):
    told = [(0, 1)] + values
    for i, row in enumerate(zone):
        for j, bound in enumerate(row):
            if not lets(bound, minus(told[i], told[j])):
                return False
    return True


def narrowest(zone):
    rows = [[narrower(bound, free_bound(i, j)) for j, bound in enumerate(row)] for i, row in enumerate(zone)]
    for k in range(len(rows)):
        # A ring below 0 shows at its last place before that one's turn; caught there, it is not gone round and round.
        if is_broken(rows):
            return None
        over = rows[k]
        rows = [row if row[k] is None else row_over(row, row[k], over) for row in rows]
    return rows


def is_broken(rows):
    return any([row[place] < at_most(0) for place, row in enumerate(rows)])


def row_over(row, first, rest):
    # Adding and narrowing are written out here: the zone of a long road is mostly this loop.
    told = []
    for old, more in zip(row, rest):
        if more is None:
            told.append(old)
        else:
            bound = first + more - ((first | more) & 1)
            told.append(bound if old is None or bound < old else old)
    return told


def within(one, other):
    for row, other_row in zip(one, other):
        for bound, other_bound in zip(row, other_row):
            if is_wider(bound, other_bound):
                return False
    return True


def is_wider(bound, other):
    if other is None:
        return False
    return bound is None or bound > other
