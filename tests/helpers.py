"""What several test files share: the words of the document, reckoned in Python's own fractions, and random things.

Nothing here draws on the program but its refusals, doors and machines, so that it can be held against the rest.
"""

import copy
import itertools
import random
from fractions import Fraction

from zonewalk.errors import WalkError
from zonewalk.machines import Door, Machine

FORTY = 10 ** 40 - 1
SIXTY = 10 ** 60 - 1
WORDS = ["<", "<=", ">", ">=", "="]
# One of each kind that stands for no list, tuple, text, number or door.
ODD_THINGS = [None, True, False, "", "x", "x<3", 0, 3, -1, [], [3], ["x"], [None], (), (3,), ("x",), {}, {"x": 3}, 0.5]
# What is no look at x: one thing wrong at a time.
BAD_LOOKS = [
    None, True, 3, "x<3", [], ["x", "<", 3], (), ("x",), ("x", "<"), ("x", "<", 3, 3), {"x": 3},
    ("z", "<", 3), ("", "<", 3), (None, "<", 3), (1, "<", 3), (["x"], "<", 3), (("x",), "<", 3), (True, "<", 3),
    ("x", "==", 3), ("x", "", 3), ("x", "=<", 3), ("x", "!=", 3), ("x", None, 3), ("x", 3, 3), ("x", ["<"], 3),
    ("x", ("<",), 3), ("x", " <", 3), ("x", True, 3),
    ("x", "<", -1), ("x", "<", True), ("x", "<", False), ("x", "<", None), ("x", "<", "3"), ("x", "<", [3]),
    ("x", "<", (3, 1)), ("x", "<", 3.0),
]


def at_most(number):
    return 2 * number + 1


def below(number):
    return 2 * number


def pair(value):
    value = Fraction(value)
    return (value.numerator, value.denominator)


def pairs(values):
    return [pair(value) for value in values]


def plain(values):
    return [Fraction(*value) for value in values]


def is_let(bound, value):
    if bound is None:
        return True
    if bound % 2 == 1:
        return value <= (bound - 1) // 2
    return value < bound // 2


def lies(zone, values):
    told = [Fraction(0), *values]
    if any(value < 0 for value in told):
        return False
    places = range(len(told))
    return all(is_let(zone[i][j], told[i] - told[j]) for i in places for j in places)


def sum_of(one, other):
    if one is None or other is None:
        return None
    return 2 * (one // 2 + other // 2) + (one % 2) * (other % 2)


def lesser(one, other):
    if one is None or other is None:
        return other if one is None else one
    return min(one, other)


def slowly_narrowed(zone):
    """The narrowest form, by going on with every ring of three until nothing changes; None where it is empty."""
    size = len(zone)
    rows = [[lesser(bound, 1 if i == 0 or i == j else None) for j, bound in enumerate(row)]
            for i, row in enumerate(zone)]
    changed = True
    while changed:
        if any(rows[i][i] < 1 for i in range(size)):
            return None
        changed = False
        for i, k, j in itertools.product(range(size), repeat=3):
            bound = lesser(rows[i][j], sum_of(rows[i][k], rows[k][j]))
            if bound != rows[i][j]:
                rows[i][j] = bound
                changed = True
    return rows


def grid(many, bottom, top):
    """All values of so many watches that are so many parts of a whole, from 0 to top."""
    line = [Fraction(number, bottom) for number in range(top * bottom + 1)]
    return itertools.product(line, repeat=many)


def stands(value, word, number):
    return {"<": value < number, "<=": value <= number, ">": value > number, ">=": value >= number,
            "=": value == number}[word]


def meets_looks(looks, values):
    return all(stands(values[place - 1], word, number) for place, word, number in looks)


def random_bound(source, low, high):
    if source.random() < 0.35:
        return None
    return source.choice([at_most, below])(source.randint(low, high))


def random_zone(source, many, low=-3, high=4):
    """Any zone: not narrow, perhaps empty, also with a diagonal and a row 0 that are not as a narrow one's are."""
    rows = [[random_bound(source, low, high) for column in range(many + 1)] for row in range(many + 1)]
    for place in range(many + 1):
        if source.random() < 0.9:
            rows[place][place] = source.choice([None, at_most(0), at_most(2), below(1), below(4)])
    return rows


def random_values(source, many, bottom, top):
    return [Fraction(source.randint(0, top * bottom), source.randint(1, bottom)) for place in range(many)]


def zone_round(source, values, reach=3):
    """A zone in which these values lie, with each bound just at their difference, somewhat beyond, or None."""
    told = [Fraction(0), *values]

    def bound(i, j):
        far = told[i] - told[j]
        if i != j and source.random() < 0.3:
            return None
        least = -(-far // 1)
        return source.choice([at_most(least), below(far // 1 + 1), at_most(least + source.randint(0, reach))])

    return [[bound(i, j) for j in range(len(told))] for i in range(len(told))]


def narrow_zones(seed, many, count, low=-3, high=4):
    """So many narrow zones that are not empty, by the slow way."""
    source = random.Random(seed)
    found = []
    while len(found) < count:
        if source.random() < 0.5:
            zone = slowly_narrowed(random_zone(source, many, low, high))
        else:
            zone = slowly_narrowed(zone_round(source, random_values(source, many, 3, max(high, 1))))
        if zone is not None:
            found.append(zone)
    return found


def kept(case, things, ask):
    """Asks twice, and finds the same answer, the things handed in as they were, and no list of them in the answer."""
    before = copy.deepcopy(things)
    first = ask(*things)
    case.assertEqual(things, before)
    case.assertFalse(lists_in(first) & lists_in(things))
    told = copy.deepcopy(first)
    spoil(first)
    case.assertEqual(things, before)
    second = ask(*things)
    case.assertEqual(second, told)
    case.assertFalse(lists_in(first) & lists_in(second))
    seen = all_lists(second)
    case.assertEqual(len(seen), len({id(thing) for thing in seen}))
    return told


def all_lists(thing):
    found = []
    if isinstance(thing, dict):
        return [part for value in thing.values() for part in all_lists(value)]
    if isinstance(thing, (list, tuple)):
        found = [part for value in thing for part in all_lists(value)]
    return [thing, *found] if isinstance(thing, list) else found


def lists_in(thing):
    return {id(found) for found in all_lists(thing)}


def spoil(thing):
    """Changes every list in the thing, the inner ones first."""
    for found in reversed(all_lists(thing)):
        found.append("spoiled")
        found.reverse()


def refused(case, error, ask, *things):
    """Finds the call refused with just this class, and gives the refusal back."""
    with case.assertRaises(WalkError) as taken:
        ask(*things)
    case.assertIs(type(taken.exception), error, things)
    return taken.exception


def meets_guard(machine, guard, values):
    names = machine.watches()
    return all(stands(values[names.index(watch)], word, number) for watch, word, number in guard)


def slow_step(machine, room, values, step, alone=True):
    """The stand behind a step, in Python's own fractions, or None; the stand ahead is a legal one."""
    wait, number = step
    values = [value + wait for value in values]
    if wait < 0 or not meets_guard(machine, machine.stay(room), values):
        return None
    if number is None:
        return (room, values)
    if number not in range(len(machine.doors())):
        return None
    door = machine.doors()[number]
    if door.start != room or alone and door.sign or not meets_guard(machine, door.asks(), values):
        return None
    values = [Fraction(0) if watch in door.sets() else value for watch, value in zip(machine.watches(), values)]
    return (door.end, values) if meets_guard(machine, machine.stay(door.end), values) else None


def slow_stands(machine, steps, alone=True):
    """The stands of a run, or the number of the first step that cannot be made."""
    told = [(machine.rooms()[0], [Fraction(0) for watch in machine.watches()])]
    if not meets_guard(machine, machine.stay(told[0][0]), told[0][1]):
        return 0
    for number, step in enumerate(steps):
        behind = slow_step(machine, *told[-1], step, alone)
        if behind is None:
            return number
        told.append(behind)
    return told


def as_run(steps):
    return [(pair(wait), door) for wait, door in steps]


def as_steps(run):
    return [(Fraction(*wait), door) for wait, door in run]


def random_guard(source, watches, count=2, most=4, words=WORDS):
    if not watches:
        return []
    return [(source.choice(watches), source.choice(words), source.randint(0, most))
            for turn in range(source.randint(0, count))]


def random_machine(source, watches, rooms, doors, most=4, signs=("",)):
    """A machine of small numbers: stays and guards of a look or two, so that about half of it can be gone through."""
    watches = list(watches)
    names = list(rooms)

    def door():
        noughts = [watch for watch in watches if source.random() < 0.4]
        source.shuffle(noughts)
        guard = random_guard(source, watches, 2, most)
        return Door(source.choice(names), source.choice(names), guard, noughts, source.choice(signs))
    stays = [random_guard(source, watches, 1, most, ["<", "<="]) for name in names]
    # A stay that nothing meets would leave little of a small machine.
    stays = [[look for look in stay if look[1:] != ("<", 0)] for stay in stays]
    return Machine(watches, list(zip(names, stays)), [door() for turn in range(doors)])


def random_walk(source, machine, length, bottom=3, alone=True):
    """A run found by trying steps at random, as steps in Python's own fractions; [] where nothing was found."""
    steps = []
    for turn in range(length):
        for attempt in range(12):
            wait = Fraction(source.randint(0, 3 * bottom), source.randint(1, bottom))
            door = source.choice([None, *range(len(machine.doors())), *range(len(machine.doors()))])
            if isinstance(slow_stands(machine, [*steps, (wait, door)], alone), list):
                steps.append((wait, door))
                break
    return steps


def slow_met(machine, zone, guard):
    rows = [list(row) for row in zone]
    for watch, word, number in guard:
        place = machine.watches().index(watch) + 1
        if word in ("<", "<=", "="):
            rows[place][0] = lesser(rows[place][0], below(number) if word == "<" else at_most(number))
        if word in (">", ">=", "="):
            rows[0][place] = lesser(rows[0][place], below(-number) if word == ">" else at_most(-number))
    return slowly_narrowed(rows)


def slow_waited(zone):
    return slowly_narrowed([[None if i > 0 and j == 0 else bound for j, bound in enumerate(row)]
                            for i, row in enumerate(zone)])


def slow_put_back(machine, zone, noughts):
    at = [0, *[0 if watch in noughts else place for place, watch in enumerate(machine.watches(), start=1)]]
    return [[zone[i][j] for j in at] for i in at]


def slow_folded(zone, mosts):
    all_mosts = [0, *mosts]
    rows = [list(row) for row in zone]
    for i in range(len(zone)):
        for j in range(len(zone)):
            if i == j or zone[i][j] is None:
                continue
            number = zone[i][j] // 2
            if all_mosts[i] is not None and number > all_mosts[i]:
                rows[i][j] = None
            elif all_mosts[j] is not None and number < -all_mosts[j]:
                rows[i][j] = below(-all_mosts[j])
    return slowly_narrowed(rows)


def slow_freed(zone, place):
    return [[None if i == place != j else bound for j, bound in enumerate(row)] for i, row in enumerate(zone)]


def is_within(one, other):
    return all(b is None or a is not None and a <= b for row, more in zip(one, other) for a, b in zip(row, more))


def slow_greatest(machine, goal):
    guards = [machine.stay(room) for room in machine.rooms()] + [door.asks() for door in machine.doors()]
    looks = [look for guard in guards + [guard for room, guard in goal] for look in guard]
    return [max([0, *[number for name, word, number in looks if name == watch]]) for watch in machine.watches()]


def slow_search(machine, goal, free=None, ends=True):
    """The nodes of the search and whether the last one hits, without a most; goes by the words of the document."""
    mosts = slow_greatest(machine, goal)
    if free is not None:
        mosts[machine.watches().index(free)] = None

    def arrived(room, zone):
        for move in (lambda zone: slow_met(machine, zone, machine.stay(room)), slow_waited,
                     lambda zone: slow_met(machine, zone, machine.stay(room)), lambda zone: slow_folded(zone, mosts)):
            if zone is not None:
                zone = move(zone)
        if zone is not None and free is not None:
            zone = slow_freed(zone, machine.watches().index(free) + 1)
        return zone

    def hits(room, zone):
        return any(room == marked and slow_met(machine, zone, guard) is not None for marked, guard in goal)
    first = machine.rooms()[0]
    zone = arrived(first, [[1] * (len(mosts) + 1)] * (len(mosts) + 1))
    nodes = [] if zone is None else [(first, zone, None, None)]
    if nodes and ends and hits(*nodes[0][:2]):
        return nodes, True
    for at, (room, zone, *rest) in enumerate(nodes):
        for number, door in enumerate(machine.doors()):
            if door.start != room or door.sign:
                continue
            after = slow_met(machine, zone, door.asks())
            if after is not None:
                after = arrived(door.end, slow_put_back(machine, after, door.sets()))
            if after is None or any(door.end == other and is_within(after, more) for other, more, *ahead in nodes):
                continue
            nodes.append((door.end, after, at, number))
            if ends and hits(door.end, after):
                return nodes, True
    return nodes, False


def with_slow_long(machine):
    rooms = [(room, machine.stay(room)) for room in machine.rooms()]
    return Machine([*machine.watches(), "/"], rooms, machine.doors())


def slow_road_end(machine, road, guard):
    """The zone of the values at the end of a road that meet the guard, gone through without any folding, or None."""
    room = machine.rooms()[0]
    size = len(machine.watches()) + 1
    zone = slow_met(machine, [[1] * size] * size, machine.stay(room))
    for number in [*road, None]:
        if zone is not None:
            zone = slow_met(machine, slow_waited(zone), machine.stay(room))
        if number is not None and zone is not None:
            door = machine.doors()[number]
            zone = slow_met(machine, zone, door.asks())
            room = door.end
            if zone is not None:
                zone = slow_met(machine, slow_put_back(machine, zone, door.sets()), machine.stay(room))
    return None if zone is None else slow_met(machine, zone, guard)


def slow_soonest(machine, road, guard):
    """The soonest end of a road, by a watch that is never set to 0; None where the road is closed."""
    zone = slow_road_end(with_slow_long(machine), road, guard)
    if zone is None:
        return None
    return (-(zone[0][-1] // 2), zone[0][-1] % 2 == 1)


def random_road(source, machine, length):
    road = []
    room = machine.rooms()[0]
    for turn in range(length):
        numbers = [number for number, door in enumerate(machine.doors()) if door.start == room and not door.sign]
        if not numbers:
            break
        road.append(source.choice(numbers))
        room = machine.doors()[road[-1]].end
    return road


def slow_lets_by(machine, goal, paper):
    """Whether a paper is let by, by the words of the document."""
    told = [(room, slowly_narrowed(zone)) for room, zone in paper]
    told = [(room, zone) for room, zone in told if zone is not None]

    def covered(room, zone):
        return zone is None or any(room == other and is_within(zone, more) for other, more in told)
    first = machine.rooms()[0]
    noughts = [Fraction(0) for watch in machine.watches()]
    if meets_guard(machine, machine.stay(first), noughts):
        if not any(room == first and lies(zone, noughts) for room, zone in told):
            return False
    for room, zone in told:
        if not covered(room, slow_met(machine, slow_waited(zone), machine.stay(room))):
            return False
        for door in machine.doors():
            if door.start == room and not door.sign:
                after = slow_met(machine, zone, door.asks())
                if after is not None:
                    after = slow_put_back(machine, after, door.sets())
                    if not covered(door.end, slow_met(machine, after, machine.stay(door.end))):
                        return False
        if any(room == marked and slow_met(machine, zone, guard) is not None for marked, guard in goal):
            return False
    return True


def told_by(machine):
    doors = [(door.start, door.end, door.asks(), door.sets(), door.sign) for door in machine.doors()]
    return machine.watches(), [(room, machine.stay(room)) for room in machine.rooms()], doors
