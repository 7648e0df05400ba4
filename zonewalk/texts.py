"""Numbers, fractions, looks, machines, runs and claims as texts, written and read."""

from zonewalk.claims import Never, NoSooner, Within
from zonewalk.errors import NoText
from zonewalk.fractions import greatest_divisor
from zonewalk.machines import Door, Machine

FIGURES = "0123456789"
MOST_FIGURES = 60
LOOK_SIGNS = ("<", ">", "=")
NOUGHT_END = ":0"


def check_text(thing):
    if not isinstance(thing, str):
        raise NoText("what is read is a text")


def is_number_text(text):
    if not 1 <= len(text) <= MOST_FIGURES or not all([sign in FIGURES for sign in text]):
        return False
    return text == "0" or text[0] != "0"


def read_number(text):
    if not is_number_text(text):
        raise NoText("a number is written by one to sixty figures, with no nought ahead")
    return int(text)


def show_number(number):
    # Python does not write out some thousands of figures at once, and a sum of long fractions may have as many.
    piece = 10 ** 60
    pieces = []
    rest = number
    while rest >= piece:
        pieces.append(str(rest % piece).zfill(60))
        rest = rest // piece
    pieces.append(str(rest))
    return "".join(reversed(pieces))


def show_fraction(value):
    if value[1] == 1:
        return show_number(value[0])
    return show_number(value[0]) + "/" + show_number(value[1])


def read_fraction(text):
    check_text(text)
    parts = text.split("/")
    if len(parts) == 1:
        return (read_number(text), 1)
    if len(parts) > 2:
        raise NoText("a fraction has one top and one bottom")
    top = read_number(parts[0])
    bottom = read_number(parts[1])
    if bottom < 2 or greatest_divisor(top, bottom) > 1:
        raise NoText("a fraction is written in lowest terms, without a bottom of 1")
    return (top, bottom)


def show_looks(guard):
    return [watch + word + show_number(number) for watch, word, number in guard]


def read_look(text):
    places = [place for place, sign in enumerate(text) if sign in LOOK_SIGNS]
    if len(places) == 0:
        raise NoText("a look has a word in it")
    at = places[0]
    end = at + 1
    if text[at] != "=" and text[end:].startswith("="):
        end += 1
    return (text[:at], text[at:end], read_number(text[end:]))


def read_looks(words):
    return [read_look(word) for word in words]


def show_machine(machine):
    rows = [["watches"] + machine.watches()]
    rows.extend([["room", room] + show_looks(machine.stay(room)) for room in machine.rooms()])
    rows.extend([door_words(door) for door in machine.doors()])
    return "\n".join([" ".join(words) for words in rows])


def door_words(door):
    noughts = [watch + NOUGHT_END for watch in door.sets()]
    signs = [] if door.sign == "" else [door.sign]
    return ["door", door.start, door.end] + show_looks(door.asks()) + noughts + signs


def read_machine(text):
    check_text(text)
    rows = [row.split(" ") for row in text.split("\n")]
    if rows[0][0] != "watches":
        raise NoText("the first row of a machine is that of its watches")
    rooms = []
    doors = []
    for words in rows[1:]:
        if words[0] == "room" and len(words) >= 2 and len(doors) == 0:
            rooms.append((words[1], read_looks(words[2:])))
        elif words[0] == "door" and len(words) >= 3:
            doors.append(read_door(words))
        else:
            raise NoText("behind the watches are rows of rooms, then of doors")
    return Machine(rows[0][1:], rooms, doors)


def read_door(words):
    guard = []
    noughts = []
    sign = ""
    for word in words[3:]:
        if sign != "":
            raise NoText("a door's sign is its last word")
        if word.endswith(NOUGHT_END):
            noughts.append(word[:-2])
        elif word.endswith("!") or word.endswith("?"):
            sign = word
        elif len(noughts) > 0:
            raise NoText("a door's looks are ahead of its noughts")
        else:
            guard.append(read_look(word))
    return Door(words[1], words[2], guard, noughts, sign)


def show_run(run):
    return "; ".join([show_fraction(wait) + " " + show_door(door) for wait, door in run])


def show_door(door):
    return "-" if door is None else show_number(door)


def read_run(text):
    check_text(text)
    if text == "":
        return []
    return [read_step(part) for part in text.split("; ")]


def read_step(text):
    words = text.split(" ")
    if len(words) != 2:
        raise NoText("a step is a wait and a door")
    door = None if words[1] == "-" else read_number(words[1])
    return (read_fraction(words[0]), door)


def show_claim(claim):
    if isinstance(claim, Never):
        words = ["never", claim.room] + show_looks(claim.guard)
    elif isinstance(claim, NoSooner):
        words = ["nosooner", claim.room, show_number(claim.number)] + show_looks(claim.guard)
    else:
        words = ["within", claim.room, show_number(claim.number)]
    return " ".join(words)


def read_claim(text):
    check_text(text)
    words = text.split(" ")
    if words[0] == "never" and len(words) >= 2:
        return Never(words[1], read_looks(words[2:]))
    if words[0] == "nosooner" and len(words) >= 3:
        return NoSooner(words[1], read_looks(words[3:]), read_number(words[2]))
    if words[0] == "within" and len(words) == 3:
        return Within(words[1], read_number(words[2]))
    raise NoText("a claim is written by never, nosooner or within, and what belongs to it")
