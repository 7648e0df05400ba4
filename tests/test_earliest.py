import inspect
import random
import unittest
from fractions import Fraction

from helpers import (BAD_LOOKS, FORTY, ODD_THINGS, SIXTY, WORDS, as_steps, kept, meets_guard, pair, random_guard,
                     random_machine, refused, slow_search, slow_soonest, slow_stands, with_slow_long)
from zonewalk.earliest import earliest, earliest_run
from zonewalk.errors import BadMachine, NoMark, TooMany
from zonewalk.machines import Door, Machine
from zonewalk.search import searched, way_of

NEARS = [Fraction(1, 10 ** 9), Fraction(7), Fraction(1, 2), Fraction(22, 7)]
# The first door leads to b at 9 at the earliest, the two others by way of c at 2.
DETOUR = Machine(["x"], [("a", []), ("b", []), ("c", [])],
                 [Door("a", "b", [("x", ">=", 9)], []), Door("a", "c", [("x", ">", 1)], ["x"]),
                  Door("c", "b", [("x", ">=", 1)], [])])
LONG = Machine(["/"], [("a", [])], [])


def open_roads(machine, longest):
    """All roads of at most so many doors that are open for the empty guard."""
    roads = [([], machine.rooms()[0])]
    for road, room in roads:
        if len(road) < longest and slow_soonest(machine, road, []) is not None:
            roads.extend((road + [number], door.end) for number, door in enumerate(machine.doors())
                         if door.start == room and not door.sign)
    return roads


class EarliestTest(unittest.TestCase):
    def check_run(self, machine, room, guard, told):
        for near in NEARS:
            run = earliest_run(machine, room, guard, pair(near))
            stands = slow_stands(machine, as_steps(run))
            self.assertIsInstance(stands, list)
            self.assertEqual(stands[-1][0], room)
            self.assertTrue(meets_guard(machine, guard, stands[-1][1]))
            over = sum([Fraction(*wait) for wait, door in run]) - told[0]
            if told[1]:
                self.assertEqual(over, 0)
            else:
                self.assertTrue(0 < over < near)

    def check_earliest(self, machine, room, guard, told):
        self.assertEqual(earliest(machine, room, guard), told)
        if told is None:
            self.assertIsNone(earliest_run(machine, room, guard, (1, 2)))
        else:
            self.assertIs(type(told[1]), bool)
            self.check_run(machine, room, guard, told)

    def test_against_the_roads_of_the_list_and_short_roads(self):
        source = random.Random(1)
        seen = []
        for turn in range(240):
            watches = list("xyz")[:turn % 3]
            machine = random_machine(source, watches, "abc", source.randint(1, 4), 3, ["", "", "", "go!"])
            room = source.choice("abc")
            guard = random_guard(source, watches, 2, 5, [">", "<=", "="] if turn % 2 else WORDS)
            nodes = slow_search(with_slow_long(machine), [(room, guard)], "/", False)[0]
            roads = [way_of(nodes, at) for at, node in enumerate(nodes) if node[0] == room]
            ends = [slow_soonest(machine, road, guard) for road in roads]
            best = min([(number, not met) for number, met in filter(None, ends)], default=None)
            told = None if best is None else (best[0], not best[1])
            self.check_earliest(machine, room, guard, told)
            for road, end in open_roads(machine, 4)[:40]:
                found = slow_soonest(machine, road, guard) if end == room else None
                if found is not None:
                    self.assertLessEqual(best, (found[0], not found[1]))
            seen.append(told and told[1])
        for answer in (None, True, False):
            self.assertGreater(seen.count(answer), 4)

    def test_marks_at_once_later_at_a_number_behind_it_and_never(self):
        for room, guard, told in (("a", [], (0, True)), ("a", [("x", "=", 0)], (0, True)),
                                  ("a", [("x", ">=", 4)], (4, True)), ("a", [("x", ">", 0)], (0, False)), ("c",
                                  [], (1, False)),
                                  ("c", [("x", ">", 3)], (4, False)), ("b", [], (2, False)),
                                  ("b", [("x", ">=", 9)], (9, True)), ("b", [("x", ">", 9)], (9, False)),
                                  ("b", [("x", "<", 1)], None), ("a", [("x", "<", 0)], None)):
            self.check_earliest(DETOUR, room, guard, told)

    def test_the_road_of_the_first_hit_is_not_the_earliest(self):
        nodes, hit = searched(DETOUR, [("b", [])])
        self.assertEqual(way_of(nodes, len(nodes) - 1), [0])
        run = earliest_run(DETOUR, "b", [], (1, 1))
        self.assertEqual([door for wait, door in run], [1, 2, None])

    def test_at_a_number_is_earlier_than_behind_it(self):
        for doors in ([">", ">="], [">=", ">"], [">", ">"], [">=", ">="]):
            machine = Machine(["x"], [("a", []), ("b", []), ("c", [])],
                              [Door("a", "b", [("x", doors[0], 5)], []), Door("a", "c", [("x", doors[1], 5)], []),
                               Door("c", "b", [], [])])
            self.check_earliest(machine, "b", [], (5, ">=" in doors))

    def test_long_numbers(self):
        machine = Machine(["x", "y"], [("a", []), ("b", [])],
                          [Door("a", "a", [("x", ">", FORTY)], ["x"]), Door("a", "b", [("y", ">=", 2 * FORTY)], [])])
        self.check_earliest(machine, "b", [], (2 * FORTY, True))
        self.check_earliest(machine, "b", [("x", "<", FORTY)], (2 * FORTY, True))
        self.check_earliest(machine, "b", [("y", ">", 5 * FORTY)], (5 * FORTY, False))
        run = earliest_run(machine, "a", [("x", ">", FORTY)], (1, SIXTY))
        self.assertLess(max(part for wait, door in run for part in wait), 10 ** 200)

    def test_a_start_that_is_not_legal(self):
        machine = Machine(["x"], [("a", [("x", "<", 0)]), ("b", [])], [Door("a", "b", [], [])])
        self.check_earliest(machine, "a", [], None)
        self.check_earliest(machine, "b", [], None)

    def test_a_machine_without_watches(self):
        machine = Machine([], [("a", []), ("b", []), ("c", [])],
                          [Door("a", "b", [], []), Door("a", "c", [], [], "go!")])
        self.check_earliest(machine, "a", [], (0, True))
        self.check_earliest(machine, "b", [], (0, True))
        self.check_earliest(machine, "c", [], None)

    def test_it_goes_on_behind_a_node_that_hits(self):
        # The first node hits; the list has two more.
        machine = Machine([], [("a", []), ("b", []), ("c", [])], [Door("a", "b", [], []), Door("b", "c", [], [])])
        for most in (1, 2):
            refused(self, TooMany, earliest, machine, "a", [], most)
            refused(self, TooMany, earliest_run, machine, "a", [], (1, 2), most)
        self.assertEqual(earliest(machine, "a", [], 3), (0, True))
        self.assertEqual(earliest_run(machine, "a", [], (1, 2), 3), [((0, 1), None)])

    def test_most_just_enough_and_one_too_few(self):
        for room, guard in (("b", []), ("c", [("x", ">", 3)]), ("b", [("x", "<", 1)])):
            many = len(slow_search(with_slow_long(DETOUR), [(room, guard)], "/", False)[0])
            self.assertEqual(earliest(DETOUR, room, guard, many), earliest(DETOUR, room, guard))
            self.assertEqual(earliest_run(DETOUR, room, guard, (1, 2), many), earliest_run(DETOUR, room, guard, (1, 2)))
            refused(self, TooMany, earliest, DETOUR, room, guard, many - 1)
            refused(self, TooMany, earliest_run, DETOUR, room, guard, (1, 2), many - 1)

    def test_two_hundred_where_most_is_left_out(self):
        def rounds(number):
            return Machine(["x", "y"], [("a", [("x", "<=", 1)]), ("b", [])],
                           [Door("a", "a", [("x", "=", 1)], ["x"]), Door("a", "b", [("y", "=", number)], [])])
        many = len(slow_search(with_slow_long(rounds(60)), [("b", [])], "/", False)[0])
        number = 60 + 200 - many
        self.assertEqual(earliest(rounds(number), "b", []), (number, True))
        run = earliest_run(rounds(number), "b", [], (1, 2))
        self.assertEqual(sum(Fraction(*wait) for wait, door in run), number)
        refused(self, TooMany, earliest, rounds(number + 1), "b", [])
        refused(self, TooMany, earliest_run, rounds(number + 1), "b", [], (1, 2))


class RefusingTest(unittest.TestCase):
    def check(self, error, machine, room, guard, most=200):
        refused(self, error, earliest, machine, room, guard, most)
        refused(self, error, earliest_run, machine, room, guard, (1, 2), most)
        self.assertEqual(earliest(DETOUR, "b", []), (2, False))

    def test_machines(self):
        self.check(BadMachine, LONG, "a", [])
        self.check(BadMachine, Machine(list("abcdefg"), [("a", [])], []), "a", [])

    def test_marks(self):
        for room in ODD_THINGS + ["d", "A", ["a"], ("a",)]:
            self.check(NoMark, DETOUR, room, [])
        for thing in ODD_THINGS:
            if thing != []:
                self.check(NoMark, DETOUR, "a", thing)
        for look in BAD_LOOKS + [("/", "<", 3)]:
            self.check(NoMark, DETOUR, "a", [("x", "<", 3), look])

    def test_the_order_of_refusals(self):
        self.check(BadMachine, LONG, "d", [], 1)
        self.check(BadMachine, LONG, "a", None, 1)
        self.check(NoMark, DETOUR, "d", [], 1)
        self.check(NoMark, DETOUR, "b", [("y", "<", 1)], 1)
        self.check(TooMany, DETOUR, "b", [], 1)


class StayingTest(unittest.TestCase):
    def test_nothing_is_changed_and_lists_are_new(self):
        kept(self, [[("x", ">", 3)]], lambda guard: earliest(DETOUR, "b", guard))
        kept(self, [[("x", ">", 3)], (1, 2)], lambda guard, near: earliest_run(DETOUR, "b", guard, near))

    def test_arguments_stand_as_told(self):
        self.assertEqual(list(inspect.signature(earliest).parameters), ["machine", "room", "guard", "most"])
        self.assertEqual(list(inspect.signature(earliest_run).parameters), ["machine", "room", "guard", "near", "most"])
        for function in (earliest, earliest_run):
            self.assertEqual(inspect.signature(function).parameters["most"].default, 200)


if __name__ == "__main__":
    unittest.main()
