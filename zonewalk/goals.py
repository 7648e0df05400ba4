"""Goals: lists of marks, each a room and a guard; and the greatest numbers that watches are asked about."""

from zonewalk.errors import NoMark
from zonewalk.machines import placed
from zonewalk.moves import holds


def placed_goal(machine, goal):
    if not isinstance(goal, list):
        raise NoMark("a goal is a list of marks")
    rooms = machine.rooms()
    return [placed_mark(machine, rooms, mark) for mark in goal]


def placed_mark(machine, rooms, mark):
    if not isinstance(mark, tuple) or len(mark) != 2:
        raise NoMark("a mark is a tuple of a room and a guard")
    if mark[0] not in rooms:
        raise NoMark("a mark is in a room of the machine")
    return (mark[0], placed(machine, mark[1]))


def meets(machine, goal, stand):
    marks = placed_goal(machine, goal)
    return any([room == stand[0] and holds(looks, stand[1]) for room, looks in marks])


def greatest(machine, goal):
    numbers = [0 for watch in machine.watches()]
    for looks in all_looks(machine, goal):
        for place, word, number in looks:
            numbers[place - 1] = max(numbers[place - 1], number)
    return numbers


def all_looks(machine, goal):
    told = [looks for room, looks in placed_goal(machine, goal)]
    told.extend([placed(machine, machine.stay(room)) for room in machine.rooms()])
    told.extend([placed(machine, door.asks()) for door in machine.doors()])
    return told
