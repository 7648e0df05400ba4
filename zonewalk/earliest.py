"""The earliest time at which a mark is met, and a run that shows it."""

from zonewalk.bounds import is_open, number_of
from zonewalk.claims import check_mark
from zonewalk.longs import LONG, with_long
from zonewalk.roads import soonest_run
from zonewalk.search import Walk, listed, way_of


def earliest(machine, room, guard, most=200):
    best = best_hit(machine, room, guard, most)
    if best is None:
        return None
    return (-number_of(best[0]), not is_open(best[0]))


def earliest_run(machine, room, guard, near, most=200):
    best = best_hit(machine, room, guard, most)
    if best is None:
        return None
    return soonest_run(machine, best[1], guard, near)


def best_hit(machine, room, guard, most):
    asked = with_long(machine)
    check_mark(machine, room, guard)
    walk = Walk(asked, [(room, guard)], LONG)
    nodes = listed(walk, most, False)
    best = None
    for at, node in enumerate(nodes):
        for zone in walk.hit_zones(node):
            # The bound on 0 less the long watch: the greater it is, the sooner the mark is met.
            bound = zone[0][-1]
            if best is None or bound > best[0]:
                best = (bound, way_of(nodes, at))
    return best
