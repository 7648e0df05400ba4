"""Doors and machines: rooms with stays, doors between them with guards, noughts and signs."""

from zonewalk.errors import BadMachine, NoMark, TooMany
from zonewalk.looks import STAY_WORDS, WORDS, is_guard

MOST_WATCHES = 7
MOST_ROOMS = 64
MOST_DOORS = 200


def is_small_letter(sign):
    return "a" <= sign <= "z"


def is_name(text):
    return 1 <= len(text) <= 8 and all([is_small_letter(sign) for sign in text])


def is_watch_name(thing):
    return isinstance(thing, str) and (thing == "/" or is_name(thing))


def is_room_name(thing):
    if not isinstance(thing, str) or not 1 <= len(thing) <= 60:
        return False
    return all([sign == "/" or is_small_letter(sign) for sign in thing])


def is_sign(thing):
    if not isinstance(thing, str):
        return False
    return thing == "" or (thing[-1] in ("!", "?") and is_name(thing[:-1]))


def own_copy(thing):
    # A door is not looked at before a machine takes it, so what should be a list may be anything.
    return list(thing) if isinstance(thing, list) else thing


class Door:
    def __init__(self, start, end, guard, noughts, sign=""):
        self.start = start
        self.end = end
        self.guard = own_copy(guard)
        self.noughts = own_copy(noughts)
        self.sign = sign

    def asks(self):
        return list(self.guard)

    def sets(self):
        return list(self.noughts)


class Machine:
    def __init__(self, watches, rooms, doors):
        check_watches(watches)
        check_rooms(rooms, watches)
        check_doors(doors, [name for name, stay in rooms], watches)
        # Only now, as too many is told where nothing else is wrong.
        if len(rooms) > MOST_ROOMS or len(doors) > MOST_DOORS:
            raise TooMany("a machine has at most 64 rooms and at most 200 doors")
        self.watch_names = list(watches)
        self.stays = {}
        for name, stay in rooms:
            self.stays[name] = list(stay)
        self.door_list = list(doors)

    def watches(self):
        return list(self.watch_names)

    def rooms(self):
        return list(self.stays)

    def doors(self):
        return list(self.door_list)

    def stay(self, room):
        return list(self.stays[room])

    def watch_number(self, name):
        return self.watch_names.index(name) + 1


def check_watches(watches):
    if not isinstance(watches, list) or len(watches) > MOST_WATCHES:
        raise BadMachine("a machine's watches are a list of at most seven")
    if not all([is_watch_name(watch) for watch in watches]) or not are_unlike(watches):
        raise BadMachine("a machine's watches are unlike names")


def are_unlike(texts):
    return len(set(texts)) == len(texts)


def check_rooms(rooms, watches):
    if not isinstance(rooms, list) or len(rooms) == 0:
        raise BadMachine("a machine's rooms are a list of one or more")
    for room in rooms:
        if not isinstance(room, tuple) or len(room) != 2:
            raise BadMachine("a room is a tuple of a name and a stay")
        if not is_room_name(room[0]) or not is_guard(room[1], watches, STAY_WORDS):
            raise BadMachine("a room has a name, and a stay of the machine's watches")
    if not are_unlike([room[0] for room in rooms]):
        raise BadMachine("no two rooms have one name")


def check_doors(doors, names, watches):
    if not isinstance(doors, list):
        raise BadMachine("a machine's doors are a list")
    for door in doors:
        if not isinstance(door, Door):
            raise BadMachine("a machine's doors are doors")
        if door.start not in names or door.end not in names:
            raise BadMachine("a door leads from one room of the machine to another")
        if not is_guard(door.guard, watches, WORDS):
            raise BadMachine("a door's guard is one of the machine's watches")
        if not are_noughts(door.noughts, watches) or not is_sign(door.sign):
            raise BadMachine("a door sets watches of the machine, each once, and has at most one sign")


def are_noughts(thing, watches):
    if not isinstance(thing, list) or not all([is_watch_name(watch) for watch in thing]):
        return False
    return are_unlike(thing) and all([watch in watches for watch in thing])


def placed(machine, guard):
    watches = machine.watches()
    if not is_guard(guard, watches, WORDS):
        raise NoMark("a guard is a list of looks at the machine's watches")
    return [(machine.watch_number(watch), word, number) for watch, word, number in guard]
