"""Papers: lists of rooms and zones that nobody leaves, which show that a goal is never met."""

from zonewalk.errors import NoRoom
from zonewalk.goals import placed_goal
from zonewalk.moves import holds, met, put_back, waited
from zonewalk.plans import doors_out, placed_stays
from zonewalk.zones import lies_in, narrowest, within


class Sheet:
    def __init__(self, machine, paper):
        self.first_room = machine.rooms()[0]
        self.first_values = [(0, 1) for watch in machine.watches()]
        self.stays = placed_stays(machine)
        self.ways = doors_out(machine)
        self.zones = {}
        for room in machine.rooms():
            self.zones[room] = narrow_zones_of(paper, room)

    def holds_start(self):
        if not holds(self.stays[self.first_room], self.first_values):
            return True
        return any([lies_in(zone, self.first_values) for zone in self.zones[self.first_room]])

    def holds_within(self, room, zone):
        if zone is None:
            return True
        for other in self.zones[room]:
            if within(zone, other):
                return True
        return False

    def holds_wait(self, room, zone):
        return self.holds_within(room, met(waited(zone), self.stays[room]))

    def holds_way(self, zone, way):
        end = way[1]
        left = met(zone, way[2])
        if left is None:
            return True
        return self.holds_within(end, met(put_back(left, way[3]), self.stays[end]))

    def holds_room(self, room):
        for zone in self.zones[room]:
            if not self.holds_wait(room, zone):
                return False
            if not all([self.holds_way(zone, way) for way in self.ways[room]]):
                return False
        return True

    def keeps_off(self, room, looks):
        return all([met(zone, looks) is None for zone in self.zones[room]])


def narrow_zones_of(paper, room):
    told = [narrowest(zone) for name, zone in paper if name == room]
    return [zone for zone in told if zone is not None]


def lets_by(machine, goal, paper):
    marks = placed_goal(machine, goal)
    rooms = machine.rooms()
    if not all([room in rooms for room, zone in paper]):
        raise NoRoom("a paper tells of the machine's rooms")
    sheet = Sheet(machine, paper)
    if not sheet.holds_start() or not all([sheet.keeps_off(room, looks) for room, looks in marks]):
        return False
    return all([sheet.holds_room(room) for room in rooms])
