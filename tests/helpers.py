"""What several test files share: the words of the document, reckoned in Python's own fractions, and random things.

Nothing here draws on the program but its refusals, so that it can be held against what the program tells.
"""

import copy
import itertools
import random
from fractions import Fraction

from zonewalk.errors import WalkError

FORTY = 10 ** 40 - 1
SIXTY = 10 ** 60 - 1
WORDS = ["<", "<=", ">", ">=", "="]
# One of each kind that stands for no list, tuple, text, number or door.
ODD_THINGS = [None, True, False, "", "x", "x<3", 0, 3, -1, [], [3], ["x"], [None], (), (3,), ("x",), {}, {"x": 3}, 0.5]


def at_most(number):
    return 2 * number + 1


def below(number):
    return 2 * number


def pair(value):
    value = Fraction(value)
    return (value.numerator, value.denominator)


def pairs(values):
    return [pair(value) for value in values]


def plain(values):
    return [Fraction(*value) for value in values]


def is_let(bound, value):
    if bound is None:
        return True
    if bound % 2 == 1:
        return value <= (bound - 1) // 2
    return value < bound // 2


def lies(zone, values):
    told = [Fraction(0), *values]
    if any(value < 0 for value in told):
        return False
    places = range(len(told))
    return all(is_let(zone[i][j], told[i] - told[j]) for i in places for j in places)


def sum_of(one, other):
    if one is None or other is None:
        return None
    return 2 * (one // 2 + other // 2) + (one % 2) * (other % 2)


def lesser(one, other):
    if one is None or other is None:
        return other if one is None else one
    return min(one, other)


def slowly_narrowed(zone):
    """The narrowest form, by going on with every ring of three until nothing changes; None where it is empty."""
    size = len(zone)
    rows = [[lesser(bound, 1 if i == 0 or i == j else None) for j, bound in enumerate(row)]
            for i, row in enumerate(zone)]
    changed = True
    while changed:
        if any(rows[i][i] < 1 for i in range(size)):
            return None
        changed = False
        for i, k, j in itertools.product(range(size), repeat=3):
            bound = lesser(rows[i][j], sum_of(rows[i][k], rows[k][j]))
            if bound != rows[i][j]:
                rows[i][j] = bound
                changed = True
    return rows


def grid(many, bottom, top):
    """All values of so many watches that are so many parts of a whole, from 0 to top."""
    line = [Fraction(number, bottom) for number in range(top * bottom + 1)]
    return itertools.product(line, repeat=many)


def stands(value, word, number):
    return {"<": value < number, "<=": value <= number, ">": value > number, ">=": value >= number,
            "=": value == number}[word]


def meets_looks(looks, values):
    return all(stands(values[place - 1], word, number) for place, word, number in looks)


def random_bound(source, low, high):
    if source.random() < 0.35:
        return None
    return source.choice([at_most, below])(source.randint(low, high))


def random_zone(source, many, low=-3, high=4):
    """Any zone: not narrow, perhaps empty, also with a diagonal and a row 0 that are not as a narrow one's are."""
    rows = [[random_bound(source, low, high) for column in range(many + 1)] for row in range(many + 1)]
    for place in range(many + 1):
        if source.random() < 0.9:
            rows[place][place] = source.choice([None, at_most(0), at_most(2), below(1), below(4)])
    return rows


def random_values(source, many, bottom, top):
    return [Fraction(source.randint(0, top * bottom), source.randint(1, bottom)) for place in range(many)]


def zone_round(source, values, reach=3):
    """A zone in which these values lie, with each bound just at their difference, somewhat beyond, or None."""
    told = [Fraction(0), *values]

    def bound(i, j):
        far = told[i] - told[j]
        if i != j and source.random() < 0.3:
            return None
        least = -(-far // 1)
        return source.choice([at_most(least), below(far // 1 + 1), at_most(least + source.randint(0, reach))])

    return [[bound(i, j) for j in range(len(told))] for i in range(len(told))]


def narrow_zones(seed, many, count, low=-3, high=4):
    """So many narrow zones that are not empty, by the slow way."""
    source = random.Random(seed)
    found = []
    while len(found) < count:
        if source.random() < 0.5:
            zone = slowly_narrowed(random_zone(source, many, low, high))
        else:
            zone = slowly_narrowed(zone_round(source, random_values(source, many, 3, max(high, 1))))
        if zone is not None:
            found.append(zone)
    return found


def kept(case, things, ask):
    """Asks twice, and finds the same answer, the things handed in as they were, and no list of them in the answer."""
    before = copy.deepcopy(things)
    first = ask(*things)
    case.assertEqual(things, before)
    case.assertFalse(lists_in(first) & lists_in(things))
    told = copy.deepcopy(first)
    spoil(first)
    case.assertEqual(things, before)
    second = ask(*things)
    case.assertEqual(second, told)
    case.assertFalse(lists_in(first) & lists_in(second))
    seen = all_lists(second)
    case.assertEqual(len(seen), len({id(thing) for thing in seen}))
    return told


def all_lists(thing):
    found = []
    if isinstance(thing, dict):
        return [part for value in thing.values() for part in all_lists(value)]
    if isinstance(thing, (list, tuple)):
        found = [part for value in thing for part in all_lists(value)]
    return [thing, *found] if isinstance(thing, list) else found


def lists_in(thing):
    return {id(found) for found in all_lists(thing)}


def spoil(thing):
    """Changes every list in the thing, the inner ones first."""
    for found in reversed(all_lists(thing)):
        found.append("spoiled")
        found.reverse()


def refused(case, error, ask, *things):
    """Finds the call refused with just this class, and gives the refusal back."""
    with case.assertRaises(WalkError) as taken:
        ask(*things)
    case.assertIs(type(taken.exception), error, things)
    return taken.exception
