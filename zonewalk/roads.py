"""Roads: lists of doors' numbers, one behind the other, and at which times they can be gone through.

The times of a road stand for places, as watches do in a zone: place 0 is the start, the last one the look at the end.
"""

from zonewalk.bounds import at_most, narrower
from zonewalk.errors import NoRoad
from zonewalk.fractions import fraction, is_whole
from zonewalk.leasts import least_values, limits_of, unit_of
from zonewalk.looks import look_bounds
from zonewalk.machines import placed
from zonewalk.plans import nought_places
from zonewalk.zones import narrowest

MOST_ROAD_DOORS = 200


def road_doors(machine, road):
    if not isinstance(road, list) or len(road) > MOST_ROAD_DOORS:
        raise NoRoad("a road is a list of at most two hundred doors' numbers")
    doors = machine.doors()
    here = machine.rooms()[0]
    told = []
    for number in road:
        if not is_whole(number) or not 0 <= number < len(doors):
            raise NoRoad("a road goes through doors of the machine")
        door = doors[number]
        if door.sign != "" or door.start != here:
            raise NoRoad("a road goes on from where it is, and through no door with a sign")
        here = door.end
        told.append(door)
    return told


def room_of(machine, road):
    doors = road_doors(machine, road)
    return last_room(machine, doors)


def last_room(machine, doors):
    return machine.rooms()[0] if len(doors) == 0 else doors[-1].end


def looked_at(looks, time, set_at):
    # The value of a watch is the stretch from where it was last set to 0.
    bounds = []
    for place, word, number in looks:
        bounds.extend(look_bounds(time, set_at[place], word, number))
    return bounds


def waited_till(machine, room, time, set_at):
    # As stays ask from above alone, one that is met when the room is left was met all along.
    stay = placed(machine, machine.stay(room))
    return [(time - 1, time, at_most(0))] + looked_at(stay, time, set_at)


def road_bounds(machine, road, guard):
    doors = road_doors(machine, road)
    looks = placed(machine, guard)
    set_at = [0 for place in range(len(machine.watches()) + 1)]
    bounds = []
    for time, door in enumerate(doors, start=1):
        bounds.extend(waited_till(machine, door.start, time, set_at))
        bounds.extend(looked_at(placed(machine, door.asks()), time, set_at))
        for place in nought_places(machine, door):
            set_at[place] = time
    end = len(doors) + 1
    bounds.extend(waited_till(machine, last_room(machine, doors), end, set_at))
    bounds.extend(looked_at(looks, end, set_at))
    return bounds


def road_zone(machine, road, guard):
    bounds = road_bounds(machine, road, guard)
    size = len(road) + 2
    rows = [[None for column in range(size)] for row in range(size)]
    for i, j, bound in bounds:
        rows[i][j] = narrower(rows[i][j], bound)
    return narrowest(rows)


def road_unit(road, bottom):
    return unit_of(len(road) + 1, bottom)


def least_times(machine, road, guard, bottom):
    # The least good times in units, with place 0 ahead of them; None where the road is closed.
    bounds = road_bounds(machine, road, guard)
    return least_values(len(road) + 1, limits_of(bounds, road_unit(road, bottom)))


def run_by(machine, road, guard, bottom):
    times = least_times(machine, road, guard, bottom)
    if times is None:
        return None
    unit = road_unit(road, bottom)
    waits = [fraction(time - before, unit) for before, time in zip(times, times[1:])]
    return list(zip(waits, road + [None]))


def run_of(machine, road, guard):
    return run_by(machine, road, guard, 1)


def soonest(machine, road, guard):
    times = least_times(machine, road, guard, 1)
    if times is None:
        return None
    unit = road_unit(road, 1)
    # All the units that "below" adds on the way to the end come to less than a whole.
    return (times[-1] // unit, times[-1] % unit == 0)


def soonest_run(machine, road, guard, near):
    # Here they come to less than one part of as many as near's bottom says, so to less than near.
    return run_by(machine, road, guard, near[1])
