"""The words of looks, and the bounds and comparisons that they stand for."""

from zonewalk.bounds import at_most, below
from zonewalk.fractions import is_whole, under

WORDS = ("<", "<=", ">", ">=", "=")
STAY_WORDS = ("<", "<=")


def is_look(thing, watches, words):
    if not isinstance(thing, tuple) or len(thing) != 3:
        return False
    return thing[0] in watches and thing[1] in words and is_number(thing[2])


def is_number(thing):
    return is_whole(thing) and thing >= 0


def is_guard(thing, watches, words):
    return isinstance(thing, list) and all([is_look(look, watches, words) for look in thing])


def stands_so(value, word, number):
    edge = (number, 1)
    less = under(value, edge)
    more = under(edge, value)
    if word == "<":
        return less
    if word == "<=":
        return not more
    if word == ">":
        return more
    if word == ">=":
        return not less
    return not less and not more


def look_bounds(i, j, word, number):
    # The same look serves a watch's value (j is 0) and a stretch between two times of a road.
    bounds = []
    if word == "<":
        bounds.append((i, j, below(number)))
    if word == "<=" or word == "=":
        bounds.append((i, j, at_most(number)))
    if word == ">":
        bounds.append((j, i, below(-number)))
    if word == ">=" or word == "=":
        bounds.append((j, i, at_most(-number)))
    return bounds
