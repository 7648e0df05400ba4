"""A machine's stays and doors by places, as those who go through its zones need them again and again."""

from zonewalk.machines import placed


def placed_stays(machine):
    stays = {}
    for room in machine.rooms():
        stays[room] = placed(machine, machine.stay(room))
    return stays


def nought_places(machine, door):
    return [machine.watch_number(watch) for watch in door.sets()]


def doors_out(machine):
    # For each room, its doors without a sign: number, end, guard by places, places of the noughts.
    told = {}
    for room in machine.rooms():
        told[room] = []
    for number, door in enumerate(machine.doors()):
        if door.sign == "":
            way = (number, door.end, placed(machine, door.asks()), nought_places(machine, door))
            told[door.start].append(way)
    return told
