"""Machines made of others: with a long watch, and with a room cut off."""

from zonewalk.errors import NoMark
from zonewalk.machines import Door, Machine

LONG = "/"
CUT = "cut!"


def with_long(machine):
    # One that has this watch, or seven, already is refused as any such machine is.
    return Machine(machine.watches() + [LONG], rooms_with_stays(machine), machine.doors())


def rooms_with_stays(machine):
    return [(room, machine.stay(room)) for room in machine.rooms()]


def cut_off(machine, room):
    if room not in machine.rooms():
        raise NoMark("only a room of the machine is cut off")
    doors = [cut_door(door, room) for door in machine.doors()]
    return Machine(machine.watches(), rooms_with_stays(machine), doors)


def cut_door(door, room):
    if door.start != room and door.end != room:
        return door
    return Door(door.start, door.end, door.asks(), door.sets(), CUT)
