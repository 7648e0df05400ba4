import inspect
import random
import unittest

from helpers import (FORTY, ODD_THINGS, as_run, at_most, below, kept, lies, random_guard, random_machine, random_walk,
                     refused, slow_search, slow_stands)
from zonewalk.errors import NoMark, TooMany
from zonewalk.goals import meets
from zonewalk.machines import Door, Machine
from zonewalk.runner import stands
from zonewalk.search import searched, way_of

LAMP = Machine(["x", "y"], [("off", []), ("on", [("x", "<=", 5)])],
               [Door("off", "on", [("y", ">=", 2)], ["x"]), Door("on", "off", [("x", "=", 5)], ["y"])])


def chain(many):
    """Rooms in a row, so that the search lists one node more for each."""
    names = ["a" * (place + 1) for place in range(many)]
    doors = [Door(one, other, [], []) for one, other in zip(names, names[1:])]
    return Machine([], [(name, []) for name in names], doors), names


def some_machines(seed, count):
    source = random.Random(seed)
    for turn in range(count):
        watches = list("xyz")[:turn % 4]
        machine = random_machine(source, watches, "abc", source.randint(1, 7), 3, ["", "", "", "go!"])
        goal = [(source.choice("abc"), random_guard(source, watches, 2, 4)) for mark in range(source.randint(0, 3))]
        yield source, machine, goal


class SearchedTest(unittest.TestCase):
    def test_against_a_slow_search(self):
        seen = []
        for source, machine, goal in some_machines(1, 250):
            asked = slow_search(machine, goal)
            if len(asked[0]) <= 200:
                self.assertEqual(searched(machine, goal), asked)
                seen.append((asked[1], len(asked[0]) > 3))
        self.assertEqual(set(seen), {(True, True), (True, False), (False, True), (False, False)})

    def test_with_a_free_watch(self):
        seen = []
        for source, machine, goal in some_machines(2, 200):
            rooms = [(room, machine.stay(room)) for room in machine.rooms()]
            place = source.randint(0, len(machine.watches()))
            watches = machine.watches()[:place] + ["/"] + machine.watches()[place:]
            longer = Machine(watches, rooms, machine.doors())
            goal = [(room, guard + source.choice([[], [("/", "<", 3)], [("/", "<=", 5)]])) for room, guard in goal]
            asked = slow_search(longer, goal, "/")
            if len(asked[0]) <= 200:
                self.assertEqual(searched(longer, goal, 200, "/"), asked)
                seen.append(asked[1])
        self.assertEqual(set(seen), {True, False})

    def test_long_numbers(self):
        machine = Machine(["x", "y"], [("a", [("x", "<=", FORTY)]), ("b", [])],
                          [Door("a", "a", [("x", ">", FORTY - 1)], ["x"]), Door("a", "b", [("y", "=", FORTY)], [])])
        for number in (FORTY - 1, FORTY, FORTY + 1):
            goal = [("b", [("x", "<", number)])]
            self.assertEqual(searched(machine, goal), slow_search(machine, goal))

    def test_the_lamp(self):
        nodes, hit = searched(LAMP, [])
        self.assertIs(hit, False)
        self.assertEqual(nodes[0], ("off", [[1, 1, 1], [None, 1, 1], [None, 1, 1]], None, None))
        self.assertEqual(nodes[1], ("on", [[1, 1, at_most(-2)], [at_most(5), 1, at_most(-2)], [None, None, 1]], 0, 0))
        self.assertEqual([node[2:] for node in nodes[2:]], [(1, 1)])

    def test_a_search_that_ends_holds_every_stand_of_a_run(self):
        walked = 0
        for source, machine, goal in some_machines(3, 120):
            if len(slow_search(machine, [])[0]) > 200:
                continue
            nodes, hit = searched(machine, [])
            self.assertIs(hit, False)
            if not isinstance(slow_stands(machine, []), list):
                self.assertEqual(nodes, [])
                continue
            run = random_walk(source, machine, 7)
            for room, values in slow_stands(machine, run):
                walked += 1
                self.assertTrue(any(node[0] == room and lies(node[1], values) for node in nodes))
        self.assertGreater(walked, 300)

    def test_no_hit_means_no_run_there(self):
        for source, machine, goal in some_machines(4, 120):
            if len(slow_search(machine, goal)[0]) > 200 or searched(machine, goal)[1]:
                continue
            if isinstance(slow_stands(machine, []), list):
                for stand in stands(machine, as_run(random_walk(source, machine, 7))):
                    self.assertFalse(meets(machine, goal, stand))


class EdgeTest(unittest.TestCase):
    def test_a_first_node_that_hits(self):
        nodes, hit = searched(LAMP, [("off", [("y", ">", 3)])], 1)
        self.assertEqual((len(nodes), hit), (1, True))
        nodes, hit = searched(LAMP, [("off", [])])
        self.assertEqual((len(nodes), hit), (1, True))

    def test_a_first_node_whose_zone_is_empty(self):
        machine = Machine(["x"], [("a", [("x", "<", 0)])], [Door("a", "a", [], [])])
        self.assertEqual(searched(machine, []), ([], False))
        self.assertEqual(searched(machine, [("a", [])], 1), ([], False))

    def test_the_empty_goal_is_hit_nowhere(self):
        self.assertIs(searched(LAMP, [])[1], False)

    def test_two_marks_in_one_room(self):
        bad = ("on", [("x", ">", 5)])
        good = ("on", [("x", "=", 5)])
        for goal, answer in (([bad], False), ([good], True), ([bad, good], True), ([good, bad], True),
                             ([bad, bad], False)):
            self.assertIs(searched(LAMP, goal)[1], answer)

    def test_a_mark_of_another_room_is_no_hit(self):
        machine, names = chain(3)
        self.assertEqual(len(searched(machine, [(names[1], [])])[0]), 2)

    def test_most_just_enough_and_one_too_few(self):
        machine, names = chain(40)
        for goal, many in (([], 40), ([(names[-1], [])], 40), ([(names[6], [])], 7)):
            nodes, hit = searched(machine, goal, many)
            self.assertEqual((len(nodes), hit), (many, goal != []))
            refused(self, TooMany, searched, machine, goal, many - 1)
            refused(self, TooMany, searched, machine, goal, 1)

    def test_the_node_too_many_is_one_that_would_be_put(self):
        # Behind the last node there are doors, but none that leads to a node of its own.
        machine = Machine([], [("a", []), ("b", [])],
                          [Door("a", "b", [], []), Door("b", "a", [], []), Door("b", "b", [], [])])
        self.assertEqual(len(searched(machine, [], 2)[0]), 2)
        refused(self, TooMany, searched, machine, [], 1)

    def test_two_hundred_where_most_is_left_out(self):
        # Each time round, y is farther ahead of x, up to the number that it is asked about.
        def rounds(number):
            return Machine(["x", "y"], [("a", [("x", "<=", 1)]), ("b", [])],
                           [Door("a", "a", [("x", "=", 1)], ["x"]), Door("a", "b", [("y", "=", number)], [])])
        many = len(slow_search(rounds(150), [])[0])
        number = 150 + 200 - many
        self.assertEqual(len(searched(rounds(number), [])[0]), 200)
        self.assertEqual(len(searched(rounds(number), [], 200)[0]), 200)
        refused(self, TooMany, searched, rounds(number + 1), [])
        refused(self, TooMany, searched, rounds(number + 1), [], 200)

    def test_zones_within_others_are_left_out_and_none_is_taken_out(self):
        # The second way to b has the wider zone: it is put, and the narrower one stays.
        machine = Machine(["x"], [("a", []), ("b", [])],
                          [Door("a", "b", [("x", ">", 3)], []), Door("a", "b", [("x", ">", 1)], []),
                           Door("a", "b", [("x", ">", 2)], [])])
        nodes, hit = searched(machine, [])
        self.assertEqual([node[3] for node in nodes], [None, 0, 1])
        self.assertEqual([node[1][0][1] for node in nodes[1:]], [below(-3), below(-1)])

    def test_a_zone_that_two_others_cover_together_is_put(self):
        machine = Machine(["x"], [("a", [("x", "<=", 4)]), ("b", [("x", "<=", 9)])],
                          [Door("a", "b", [("x", "<", 1)], ["x"]), Door("a", "b", [], [])])
        self.assertEqual(searched(machine, []), slow_search(machine, []))

    def test_doors_with_a_sign_are_not_gone_through(self):
        machine = Machine([], [("a", []), ("b", []), ("c", [])],
                          [Door("a", "b", [], [], "go!"), Door("a", "b", [], [], "go?"), Door("a", "c", [], [])])
        self.assertEqual([node[0] for node in searched(machine, [("b", [])])[0]], ["a", "c"])

    def test_the_stay_of_the_end_is_met_ahead_of_the_wait_too(self):
        machine = Machine(["x"], [("a", []), ("b", [("x", "<=", 2)])], [Door("a", "b", [("x", ">", 2)], [])])
        self.assertEqual(len(searched(machine, [])[0]), 1)

    def test_numbers_in_doors_with_a_sign_count_for_the_folding(self):
        machine = Machine(["x", "y"], [("a", []), ("b", [])],
                          [Door("a", "a", [("x", "<", 3)], [], "go!"), Door("a", "b", [("y", "=", 5)], ["y"])])
        self.assertEqual(searched(machine, []), slow_search(machine, []))
        self.assertEqual(searched(machine, [])[0][1][1][0], [1, below(-3), 1])

    def test_a_free_watch_is_not_folded_but_freed(self):
        machine = Machine(["x", "/"], [("a", [("x", "<=", 3)]), ("b", [])],
                          [Door("a", "a", [("x", "=", 3)], ["x"]), Door("a", "b", [("x", ">", 2)], [])])
        nodes, hit = searched(machine, [("b", [("/", "<", 2)])], 200, "/")
        self.assertIs(hit, False)
        self.assertEqual([node[0] for node in nodes], ["a", "b"])
        self.assertEqual([node[1][2] for node in nodes], [[None, None, 1]] * 2)
        self.assertEqual(nodes[1][1][0][2], below(-2))
        self.assertIs(searched(machine, [("b", [("/", "<", 3)])], 200, "/")[1], True)
        self.assertIs(searched(machine, [("b", [("/", "<=", 2)])], 200, "/")[1], False)


class WayTest(unittest.TestCase):
    def test_the_first_node(self):
        self.assertEqual(way_of(searched(LAMP, [])[0], 0), [])

    def test_every_node_of_random_lists(self):
        longest = 0
        for source, machine, goal in some_machines(5, 120):
            nodes = slow_search(machine, goal)[0]
            for at, node in enumerate(nodes):
                way = way_of(nodes, at)
                self.assertEqual(way, [] if node[2] is None else way_of(nodes, node[2]) + [node[3]])
                room = machine.rooms()[0]
                for number in way:
                    self.assertEqual(machine.doors()[number].start, room)
                    room = machine.doors()[number].end
                self.assertEqual(room, node[0])
                longest = max(longest, len(way))
        self.assertGreater(longest, 3)


class RefusingTest(unittest.TestCase):
    def test_goals(self):
        for thing in ODD_THINGS:
            if thing != []:
                refused(self, NoMark, searched, LAMP, thing)
            refused(self, NoMark, searched, LAMP, [thing])
            refused(self, NoMark, searched, LAMP, [("off", []), thing])
        for mark in (("dim", []), ("off", [("z", "<", 3)]), ("off", None), ("off", [("x", "==", 3)]),
                     ("off", [("x", "<", -1)]), ("off", [("x", "<", True)])):
            refused(self, NoMark, searched, LAMP, [mark])
            self.assertEqual(len(searched(LAMP, [])[0]), 3)

    def test_no_mark_ahead_of_too_many(self):
        machine, names = chain(5)
        refused(self, NoMark, searched, machine, [("zz", [])], 1)
        refused(self, NoMark, searched, machine, [(names[4], [("x", "<", 3)])], 1)
        refused(self, TooMany, searched, machine, [(names[4], [])], 1)


class StayingTest(unittest.TestCase):
    def test_nothing_is_changed_and_lists_are_new(self):
        goal = [("on", [("x", ">", 9)]), ("off", [("y", "<", 0)])]
        kept(self, [goal], lambda goal: searched(LAMP, goal))
        free = Machine(["x", "/"], [("a", [("x", "<=", 3)])], [Door("a", "a", [("x", "=", 3)], ["x"])])
        kept(self, [[("a", [("/", "<", 0)])]], lambda goal: searched(free, goal, 9, "/"))
        kept(self, [searched(LAMP, [])[0], 2], way_of)

    def test_arguments_stand_as_told(self):
        told = [(searched, ["machine", "goal", "most", "free"]), (way_of, ["nodes", "at"])]
        for function, names in told:
            self.assertEqual(list(inspect.signature(function).parameters), names)
        self.assertEqual(inspect.signature(searched).parameters["most"].default, 200)
        self.assertIsNone(inspect.signature(searched).parameters["free"].default)


if __name__ == "__main__":
    unittest.main()
