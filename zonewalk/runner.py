"""The plain runner: a machine walked step by step, by told waits and doors."""

from zonewalk.errors import NoRun
from zonewalk.fractions import plus, under
from zonewalk.machines import placed
from zonewalk.moves import holds
from zonewalk.plans import nought_places


def start(machine):
    return (machine.rooms()[0], [(0, 1) for watch in machine.watches()])


def walked(machine, run, alone=True):
    return stands(machine, run, alone)[-1]


def stands(machine, run, alone=True):
    here = start(machine)
    if not is_legal(machine, here[0], here[1]):
        raise NoRun(0)
    told = [here]
    for number, step in enumerate(run):
        here = stand_behind(machine, here, step, alone)
        if here is None:
            raise NoRun(number)
        told.append(here)
    return told


def is_legal(machine, room, values):
    return holds(placed(machine, machine.stay(room)), values)


def stand_behind(machine, stand, step, alone):
    room = stand[0]
    wait = step[0]
    if under(wait, (0, 1)):
        return None
    values = [plus(value, wait) for value in stand[1]]
    if not is_legal(machine, room, values):
        return None
    if step[1] is None:
        return (room, values)
    return stand_beyond(machine, room, values, step[1], alone)


def stand_beyond(machine, room, values, number, alone):
    doors = machine.doors()
    if not 0 <= number < len(doors):
        return None
    door = doors[number]
    if door.start != room or (alone and door.sign != ""):
        return None
    if not holds(placed(machine, door.asks()), values):
        return None
    noughts = nought_places(machine, door)
    after = [(0, 1) if place in noughts else value for place, value in enumerate(values, start=1)]
    if not is_legal(machine, door.end, after):
        return None
    return (door.end, after)


def total(run):
    told = (0, 1)
    for wait, door in run:
        told = plus(told, wait)
    return told
