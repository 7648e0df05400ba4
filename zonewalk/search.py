"""The search: all zones that a machine comes to, listed room by room, until one hits the goal."""

from zonewalk.errors import TooMany
from zonewalk.goals import greatest, placed_goal
from zonewalk.moves import folded, freed, met, put_back, waited
from zonewalk.plans import doors_out, placed_stays
from zonewalk.zones import nought, within


class Walk:
    def __init__(self, machine, goal, free):
        self.marks = placed_goal(machine, goal)
        self.mosts = greatest(machine, goal)
        self.first_room = machine.rooms()[0]
        self.stays = placed_stays(machine)
        self.ways = doors_out(machine)
        self.free_place = None
        if free is not None:
            self.free_place = machine.watch_number(free)
            self.mosts[self.free_place - 1] = None

    def arrived(self, room, zone):
        stay = self.stays[room]
        here = met(zone, stay)
        if here is None:
            return None
        # Behind the wait there is at least what was there ahead of it, so the stay leaves some of it.
        told = folded(met(waited(here), stay), self.mosts)
        if self.free_place is None:
            return told
        return freed(told, self.free_place)

    def first_nodes(self):
        zone = self.arrived(self.first_room, nought(len(self.mosts)))
        return [] if zone is None else [(self.first_room, zone, None, None)]

    def next_nodes(self, node, at):
        told = []
        for number, end, guard, noughts in self.ways[node[0]]:
            zone = met(node[1], guard)
            if zone is not None:
                zone = self.arrived(end, put_back(zone, noughts))
            if zone is not None:
                told.append((end, zone, at, number))
        return told

    def hit_zones(self, node):
        zones = [met(node[1], looks) for room, looks in self.marks if room == node[0]]
        return [zone for zone in zones if zone is not None]

    def hits(self, node):
        return len(self.hit_zones(node)) > 0


def listed(walk, most, ends):
    nodes = walk.first_nodes()
    if ends and any([walk.hits(node) for node in nodes]):
        return nodes
    at = 0
    while at < len(nodes):
        for node in walk.next_nodes(nodes[at], at):
            if is_covered(nodes, node):
                continue
            if len(nodes) >= most:
                raise TooMany("the search would list more nodes than told")
            nodes.append(node)
            if ends and walk.hits(node):
                return nodes
        at += 1
    return nodes


def is_covered(nodes, node):
    # The newest ones first: they are the likeliest, and the first one found is enough.
    for other in reversed(nodes):
        if other[0] == node[0] and within(node[1], other[1]):
            return True
    return False


def searched(machine, goal, most=200, free=None):
    walk = Walk(machine, goal, free)
    nodes = listed(walk, most, True)
    return (nodes, len(nodes) > 0 and walk.hits(nodes[-1]))


def way_of(nodes, at):
    back = []
    here = at
    while nodes[here][2] is not None:
        back.append(nodes[here][3])
        here = nodes[here][2]
    return list(reversed(back))
