"""Machines put together to one: its rooms are ways to take one room of each, its doors go alone or two at once."""

from zonewalk.errors import BadMachine, TooMany
from zonewalk.machines import MOST_DOORS, MOST_ROOMS, MOST_WATCHES, Door, Machine, are_unlike, is_room_name

MOST_PARTS = 6


def together(machines):
    takings = checked_takings(machines)
    rooms = [(whole_name(taking), whole_stay(machines, taking)) for taking in takings]
    doors = [whole_door(machines, share, taking) for share, taking in whole_ways(machines, takings)]
    return Machine(all_watches(machines), rooms, doors)


def shares(machines):
    takings = checked_takings(machines)
    return [list(share) for share, taking in whole_ways(machines, takings)]


def checked_takings(machines):
    check_parts(machines)
    takings = all_takings(machines)
    names = [whole_name(taking) for taking in takings]
    if not are_unlike(names) or not all([is_room_name(name) for name in names]):
        raise BadMachine("a room of the whole would have a name twice, or a name of more than sixty signs")
    return takings


def check_parts(machines):
    if not isinstance(machines, list) or not 1 <= len(machines) <= MOST_PARTS:
        raise BadMachine("one to six machines are put together")
    if not all([isinstance(machine, Machine) for machine in machines]):
        raise BadMachine("only machines are put together")
    watches = all_watches(machines)
    if len(watches) > MOST_WATCHES or not are_unlike(watches):
        raise BadMachine("machines put together have at most seven watches, all unlike")


def all_watches(machines):
    watches = []
    for machine in machines:
        watches.extend(machine.watches())
    return watches


def all_takings(machines):
    takings = [[]]
    for machine in machines:
        longer = []
        for taking in takings:
            longer.extend([taking + [room] for room in machine.rooms()])
        if len(longer) > MOST_ROOMS:
            raise TooMany("the whole would have more than 64 rooms")
        takings = longer
    return takings


def whole_name(taking):
    return "/".join(taking)


def whole_stay(machines, taking):
    stay = []
    for machine, room in zip(machines, taking):
        stay.extend(machine.stay(room))
    return stay


def whole_ways(machines, takings):
    # The doors of the whole, each as its share and the rooms that it starts from.
    lists = [machine.doors() for machine in machines]
    ways = []
    for at, doors in enumerate(lists):
        for number in range(len(doors)):
            for share in shares_of(lists, at, number):
                ways.extend([(share, taking) for taking in takings if starts_from(lists, share, taking)])
                if len(ways) > MOST_DOORS:
                    raise TooMany("the whole would have more than 200 doors")
    return ways


def shares_of(lists, at, number):
    sign = lists[at][number].sign
    if sign == "":
        return [[(at, number)]]
    if sign.endswith("?"):
        return []
    answer = sign[:-1] + "?"
    told = []
    for other_at, doors in enumerate(lists):
        for other_number, door in enumerate(doors):
            if other_at != at and door.sign == answer:
                told.append([(at, number), (other_at, other_number)])
    return told


def starts_from(lists, share, taking):
    return all([lists[at][number].start == taking[at] for at, number in share])


def whole_door(machines, share, taking):
    ends = list(taking)
    guard = []
    noughts = []
    for at, number in share:
        door = machines[at].doors()[number]
        ends[at] = door.end
        guard.extend(door.asks())
        noughts.extend(door.sets())
    return Door(whole_name(taking), whole_name(ends), guard, noughts)
