import inspect
import random
import unittest
from fractions import Fraction

from helpers import (BAD_LOOKS, FORTY, ODD_THINGS, SIXTY, as_steps, at_most, below, grid, kept, lies, meets_guard,
                     pair, plain, random_guard, random_machine, random_road, refused, slow_road_end, slow_search,
                     slow_soonest, slow_stands, slowly_narrowed)
from zonewalk.errors import NoMark, NoRoad
from zonewalk.fractions import is_fraction
from zonewalk.machines import Door, Machine
from zonewalk.roads import road_zone, room_of, run_of, soonest, soonest_run
from zonewalk.search import searched, way_of
from zonewalk.stands import near_values

NEARS = [Fraction(1, 10 ** 9), Fraction(7), Fraction(3, 2), Fraction(1, 3), Fraction(22, 7)]
LOOP = Machine(["x", "y"], [("a", []), ("b", [("x", "<=", 3)])],
               [Door("a", "b", [("x", ">", 1)], ["x"]), Door("b", "a", [("x", "=", 3)], ["x", "y"]),
                Door("a", "a", [("x", ">", 0)], ["x"]), Door("a", "b", [], [], "go!"),
                Door("a", "b", [("y", "<", 0)], [])])


def some_roads(seed, count, longest=10, most=3, watches_most=7):
    source = random.Random(seed)
    for turn in range(count):
        watches = list("xyzuvwt")[:source.randint(0, watches_most) if turn % 3 else 2]
        machine = random_machine(source, watches, "abc", 9, most)
        road = random_road(source, machine, source.randint(0, longest))
        yield source, machine, road, random_guard(source, watches, 1, most)


def are_good(machine, road, guard, times):
    """Whether there is a run of just this road at just these times whose end meets the guard."""
    waits = [time - before for before, time in zip([Fraction(0), *times], times)]
    told = slow_stands(machine, list(zip(waits, [*road, None])))
    return isinstance(told, list) and meets_guard(machine, guard, told[-1][1])


class RoomTest(unittest.TestCase):
    def test_where_the_last_door_ends(self):
        self.assertEqual(room_of(LOOP, []), "a")
        self.assertEqual(room_of(LOOP, [2]), "a")
        self.assertEqual(room_of(LOOP, [2, 0]), "b")
        self.assertEqual(room_of(LOOP, [0, 1, 2]), "a")
        # A road may be closed.
        self.assertEqual(room_of(LOOP, [4]), "b")

    def test_random_roads(self):
        for source, machine, road, guard in some_roads(1, 60):
            ends = [machine.rooms()[0], *[machine.doors()[number].end for number in road]]
            self.assertEqual(room_of(machine, road), ends[-1])

    def test_two_hundred_doors_and_one_more(self):
        self.assertEqual(room_of(LOOP, [2] * 200), "a")
        refused(self, NoRoad, room_of, LOOP, [2] * 201)


class ZoneTest(unittest.TestCase):
    def test_just_the_good_times_lie_in_it(self):
        seen = []
        for source, machine, road, guard in some_roads(2, 250, 2):
            zone = road_zone(machine, road, guard)
            many = len(road) + 1
            found = False
            for times in list(grid(many, many + 1, {1: 9, 2: 7, 3: 3}[many]))[::many]:
                good = are_good(machine, road, guard, times)
                self.assertEqual(zone is not None and lies(zone, times), good)
                found = found or good
            seen.append((zone is None, found))
        self.assertIn((True, False), seen)
        self.assertIn((False, True), seen)

    def test_closed_just_where_nothing_is_left(self):
        seen = []
        for source, machine, road, guard in some_roads(3, 400):
            zone = road_zone(machine, road, guard)
            seen.append(zone is None)
            self.assertEqual(zone is None, slow_road_end(machine, road, guard) is None)
            if zone is not None:
                self.assertEqual(len(zone), len(road) + 2)
                self.assertEqual(slowly_narrowed(zone), zone)
        self.assertGreater(seen.count(True), 30)
        self.assertGreater(seen.count(False), 100)

    def test_times_at_its_bounds_are_good(self):
        tried = 0
        for source, machine, road, guard in some_roads(4, 120, 6):
            zone = road_zone(machine, road, guard)
            if zone is None:
                continue
            for turn in range(6):
                i, j = source.sample(range(len(zone)), 2)
                times = plain(near_values(zone, i, j, (1, 5)))
                self.assertTrue(are_good(machine, road, guard, times))
                # One step beyond the bound nothing is good, whatever the other times do.
                told = [Fraction(0), *times]
                if zone[i][j] is not None and i > 0:
                    told[i] = told[j] + zone[i][j] // 2 + (Fraction(1, 9) if zone[i][j] % 2 else 0)
                    self.assertFalse(are_good(machine, road, guard, told[1:]))
                    tried += 1
        self.assertGreater(tried, 80)

    def test_the_road_without_doors(self):
        machine = Machine(["x"], [("a", [("x", "<", 4)])], [])
        self.assertEqual(road_zone(machine, [], []), [[1, 1], [below(4), 1]])
        self.assertEqual(road_zone(machine, [], [("x", ">=", 1)]), [[1, at_most(-1)], [below(4), 1]])
        self.assertIsNone(road_zone(machine, [], [("x", ">=", 4)]))
        self.assertIsNone(road_zone(Machine(["x"], [("a", [("x", "<", 0)])], []), [], []))
        self.assertEqual(road_zone(Machine([], [("a", [])], []), [], []), [[1, 1], [None, 1]])

    def test_a_look_that_is_met_at_one_time_alone(self):
        guard = [("x", "<=", 3), ("x", ">=", 3)]
        self.assertEqual(road_zone(LOOP, [], guard), [[1, at_most(-3)], [at_most(3), 1]])
        self.assertEqual(road_zone(LOOP, [], [("x", "=", 3)]), [[1, at_most(-3)], [at_most(3), 1]])

    def test_looks_that_no_time_meets_though_each_has_some(self):
        self.assertIsNone(road_zone(LOOP, [], [("x", "<", 3), ("x", ">=", 3)]))
        # y goes on from the start, x from the door: each alone can be met, both cannot.
        self.assertIsNotNone(road_zone(LOOP, [0], [("x", "=", 2)]))
        self.assertIsNotNone(road_zone(LOOP, [0], [("y", "<", 3)]))
        self.assertIsNone(road_zone(LOOP, [0], [("x", "=", 2), ("y", "<=", 3)]))
        self.assertIsNotNone(road_zone(LOOP, [0], [("x", "=", 2), ("y", "<", 4)]))

    def test_stays_of_ends_are_asked_behind_the_noughts(self):
        machine = Machine(["x", "y"], [("a", []), ("b", [("x", "<", 1)]), ("c", [("y", "<", 0)])],
                          [Door("a", "b", [("x", ">", 5)], ["x"]), Door("a", "b", [("x", ">", 5)], ["y"]),
                           Door("a", "c", [], ["y"])])
        self.assertIsNotNone(road_zone(machine, [0], []))
        self.assertIsNone(road_zone(machine, [1], []))
        self.assertIsNone(road_zone(machine, [2], []))

    def test_a_stay_holds_the_wait_ahead_of_a_door(self):
        machine = Machine(["x"], [("a", [("x", "<=", 2)]), ("b", [])], [Door("a", "b", [], [])])
        self.assertEqual(road_zone(machine, [0], [])[1][0], at_most(2))
        self.assertEqual(road_zone(machine, [0], [])[2][0], None)

    def test_a_watch_set_by_several_doors(self):
        zone = road_zone(LOOP, [0, 1, 0, 1], [])
        self.assertEqual(zone[1][2], at_most(-3))
        self.assertEqual(zone[2][1], at_most(3))
        self.assertEqual(zone[0][4], below(-8))
        self.assertEqual(zone[4][3], at_most(3))

    def test_two_hundred_doors(self):
        machine = Machine(["x", "y"], [("a", [("x", "<=", 2)])], [Door("a", "a", [("x", ">=", 1)], ["x"])])
        zone = road_zone(machine, [0] * 200, [("y", "<=", 300)])
        self.assertEqual(len(zone), 202)
        self.assertEqual(zone[0][200], at_most(-200))
        self.assertEqual(zone[201][0], at_most(300))
        self.assertEqual(zone[1][0], at_most(2))
        self.assertEqual(zone[150][0], at_most(250))
        self.assertIsNone(road_zone(machine, [0] * 200, [("y", "<", 200)]))


class RunTest(unittest.TestCase):
    def check_run(self, machine, road, guard, run):
        self.assertEqual([door for wait, door in run], [*road, None])
        self.assertTrue(all(is_fraction(wait) for wait, door in run))
        told = slow_stands(machine, as_steps(run))
        self.assertIsInstance(told, list)
        self.assertTrue(meets_guard(machine, guard, told[-1][1]))

    def check_road(self, machine, road, guard):
        asked = slow_soonest(machine, road, guard)
        self.assertEqual(soonest(machine, road, guard), asked)
        run = run_of(machine, road, guard)
        self.assertEqual(run is None, asked is None)
        if asked is None:
            self.assertIsNone(soonest_run(machine, road, guard, (1, 2)))
            return
        self.assertIs(type(asked[1]), bool)
        self.check_run(machine, road, guard, run)
        self.assertLessEqual(max(wait[1] for wait, door in run), len(road) + 2)
        for near in NEARS:
            run = soonest_run(machine, road, guard, pair(near))
            self.check_run(machine, road, guard, run)
            over = sum([Fraction(*wait) for wait, door in run]) - asked[0]
            if asked[1]:
                self.assertEqual(over, 0)
            else:
                self.assertTrue(0 < over < near)

    def test_random_roads(self):
        seen = []
        for source, machine, road, guard in some_roads(5, 400, watches_most=6):
            self.check_road(machine, road, guard)
            found = slow_soonest(machine, road, guard)
            seen.append(found and found[1])
        for answer in (None, True, False):
            self.assertGreater(seen.count(answer), 20)

    def test_long_numbers(self):
        for source, machine, road, guard in some_roads(6, 100, 8, FORTY, 6):
            self.check_road(machine, road, guard)

    def test_seven_watches(self):
        # Too many for a long watch beside them, so only what comes of the runs themselves is looked at.
        for source, machine, road, guard in some_roads(8, 60, 6):
            run = run_of(machine, road, guard)
            self.assertEqual(run is None, slow_road_end(machine, road, guard) is None)
            if run is not None:
                self.check_run(machine, road, guard, run)
                self.assertEqual(soonest(machine, road, guard)[0], -(road_zone(machine, road, guard)[0][-1] // 2))
                self.assertEqual(soonest(machine, road, guard)[1], road_zone(machine, road, guard)[0][-1] % 2 == 1)

    def test_the_road_without_doors(self):
        self.check_road(LOOP, [], [])
        self.check_road(LOOP, [], [("x", ">", 4)])
        self.assertEqual(soonest(LOOP, [], []), (0, True))
        self.assertEqual(soonest(LOOP, [], [("x", ">", 4)]), (4, False))
        self.assertEqual(soonest(LOOP, [], [("x", ">=", 4)]), (4, True))
        self.assertEqual(run_of(LOOP, [], [("x", "=", 4)]), [((4, 1), None)])

    def test_waits_that_must_be_parts(self):
        # Each door is gone through behind the one ahead, and all within one whole.
        for many in (1, 2, 5, 9):
            machine = Machine(["x", "y"], [("a", [])], [Door("a", "a", [("x", ">", 0)], ["x"])])
            road = [0] * many
            guard = [("y", "<", 1), ("x", ">", 0)]
            self.check_road(machine, road, guard)
            self.assertEqual(soonest(machine, road, guard), (0, False))
            self.assertIsNone(run_of(machine, road, [("y", "<=", 0)]))

    def test_a_machine_without_watches(self):
        machine = Machine([], [("a", []), ("b", [])], [Door("a", "b", [], []), Door("b", "a", [], [])])
        for many in range(5):
            self.check_road(machine, [0, 1, 0, 1][:many], [])
            self.assertEqual(soonest(machine, [0, 1, 0, 1][:many], []), (0, True))

    def test_a_start_that_is_not_legal(self):
        machine = Machine(["x"], [("a", [("x", "<", 0)])], [Door("a", "a", [], [])])
        self.check_road(machine, [], [])
        self.check_road(machine, [0], [])

    def test_two_hundred_doors(self):
        machine = Machine(["x", "y", "z"], [("a", [("x", "<=", 2)])], [Door("a", "a", [("x", ">", 1)], ["x"])])
        self.check_road(machine, [0] * 60, [("y", "<", 61)])
        road = [0] * 200
        self.assertEqual(soonest(machine, road, []), (200, False))
        run = run_of(machine, road, [("y", "<", 201)])
        self.check_run(machine, road, [("y", "<", 201)], run)
        self.assertLessEqual(max(wait[1] for wait, door in run), 202)
        run = soonest_run(machine, road, [], (1, SIXTY))
        self.check_run(machine, road, [], run)
        self.assertTrue(200 < sum(Fraction(*wait) for wait, door in run) < 200 + Fraction(1, SIXTY))
        self.assertLess(max(abs(part) for wait, door in run for part in wait), 10 ** 200)

    def test_short_numbers_where_what_is_handed_in_is_short(self):
        machine = Machine(["x"], [("a", [])], [Door("a", "a", [("x", ">", 10 ** 18 - 2)], ["x"])])
        for near in ((1, 10 ** 18 - 1), (10 ** 18 - 1, 10 ** 18 - 2)):
            run = soonest_run(machine, [0] * 200, [], near)
            self.assertLess(max(abs(part) for wait, door in run for part in wait), 10 ** 60)
            total = sum(Fraction(*wait) for wait, door in run)
            self.assertTrue(0 < total - 200 * (10 ** 18 - 2) < Fraction(*near))


class WayTest(unittest.TestCase):
    def test_ways_of_nodes_are_open_roads(self):
        hits = 0
        source = random.Random(7)
        for turn in range(250):
            watches = list("xyz")[:turn % 4]
            machine = random_machine(source, watches, "abc", 6, 3, ["", "", "", "go!"])
            goal = [(source.choice("abc"), random_guard(source, watches, 2, 4)) for mark in range(source.randint(1, 3))]
            if len(slow_search(machine, goal)[0]) > 200:
                continue
            nodes, hit = searched(machine, goal)
            for at, node in enumerate(nodes):
                way = way_of(nodes, at)
                self.assertEqual(room_of(machine, way), node[0])
                self.assertIsNotNone(run_of(machine, way, []))
            if hit:
                hits += 1
                guards = [guard for room, guard in goal if room == nodes[-1][0]]
                self.assertTrue(any(road_zone(machine, way, guard) is not None for guard in guards))
        self.assertGreater(hits, 60)


class RefusingTest(unittest.TestCase):
    def asks(self):
        return [lambda machine, road, guard: room_of(machine, road), road_zone, run_of, soonest,
                lambda machine, road, guard: soonest_run(machine, road, guard, (1, 2))]

    def check(self, error, road, guard=[]):
        for ask in self.asks()[1 if error is NoMark else 0:]:
            refused(self, error, ask, LOOP, road, guard)
            ask(LOOP, [2, 0], [])

    def test_what_is_no_road(self):
        for road in [[5], [-1], [-3], [2, SIXTY], [3], [2, 3], [1], [0, 0], [0, 2], [2, 1], [2] * 201]:
            self.check(NoRoad, road)
        for thing in ODD_THINGS + [(2,), (2, 0), {2: 0}]:
            if thing != []:
                self.check(NoRoad, thing)
            if thing != 0 or thing is False:
                self.check(NoRoad, [2, thing])
                self.check(NoRoad, [thing])
        self.check(NoRoad, [2, "0"])

    def test_what_is_no_guard(self):
        for thing in ODD_THINGS + [("x", "<", 3), (("x", "<", 3),)]:
            if thing != []:
                self.check(NoMark, [2, 0], thing)
        for look in BAD_LOOKS:
            self.check(NoMark, [2, 0], [("x", "<", 3), look])
            self.check(NoMark, [], [look])

    def test_no_road_ahead_of_no_mark(self):
        for road in ([9], [1], None, [3], [True]):
            self.check(NoRoad, road, [("z", "<", 3)])
            self.check(NoRoad, road, None)

    def test_a_closed_road_and_a_guard_that_is_none(self):
        self.check(NoMark, [4], [("z", "<", 3)])


class StayingTest(unittest.TestCase):
    def test_nothing_is_changed_and_lists_are_new(self):
        road = [2, 0, 1, 2]
        guard = [("x", ">", 1)]
        kept(self, [road], lambda road: room_of(LOOP, road))
        for function in (road_zone, run_of, soonest):
            kept(self, [road, guard], lambda road, guard: function(LOOP, road, guard))
            kept(self, [[], []], lambda road, guard: function(LOOP, road, guard))
            kept(self, [[4], []], lambda road, guard: function(LOOP, road, guard))
        kept(self, [road, guard, (1, 2)], lambda road, guard, near: soonest_run(LOOP, road, guard, near))

    def test_arguments_stand_as_told(self):
        told = [(room_of, ["machine", "road"]), (road_zone, ["machine", "road", "guard"]),
                (run_of, ["machine", "road", "guard"]), (soonest, ["machine", "road", "guard"]),
                (soonest_run, ["machine", "road", "guard", "near"])]
        for function, names in told:
            self.assertEqual(list(inspect.signature(function).parameters), names)


if __name__ == "__main__":
    unittest.main()
