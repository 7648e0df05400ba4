import inspect
import random
import unittest
from fractions import Fraction

from helpers import (BAD_LOOKS, FORTY, ODD_THINGS, kept, meets_guard, pairs, random_guard, random_machine,
                     random_values, refused, slow_greatest)
from zonewalk.errors import NoMark
from zonewalk.goals import greatest, meets
from zonewalk.machines import Door, Machine

MACHINE = Machine(["x", "y", "z"], [("a", [("x", "<=", 5)]), ("b", []), ("c/d", [])],
                  [Door("a", "b", [("y", ">", 7)], []), Door("b", "a", [("x", "=", 2), ("x", "<", 9)], ["z"], "go!")])


class MeetsTest(unittest.TestCase):
    def test_one_mark(self):
        goal = [("b", [("x", ">", 2), ("y", "<=", 3)])]
        self.assertIs(meets(MACHINE, goal, ("b", [(5, 2), (3, 1), (0, 1)])), True)
        self.assertIs(meets(MACHINE, goal, ("a", [(5, 2), (3, 1), (0, 1)])), False)
        self.assertIs(meets(MACHINE, goal, ("b", [(2, 1), (3, 1), (0, 1)])), False)
        self.assertIs(meets(MACHINE, goal, ("b", [(5, 2), (7, 2), (0, 1)])), False)

    def test_the_empty_goal_and_the_empty_guard(self):
        for room in MACHINE.rooms():
            self.assertIs(meets(MACHINE, [], (room, [(0, 1)] * 3)), False)
            for values in ([(0, 1)] * 3, [(FORTY, 1)] * 3):
                self.assertIs(meets(MACHINE, [("b", [])], (room, values)), room == "b")

    def test_two_marks_in_one_room(self):
        goal = [("a", [("x", "<", 1)]), ("a", [("x", ">", 3)])]
        for value, answer in ((Fraction(1, 2), True), (1, False), (3, False), (Fraction(10, 3), True)):
            self.assertIs(meets(MACHINE, goal, ("a", pairs([value, 0, 0]))), answer)

    def test_random_goals(self):
        source = random.Random(1)
        seen = set()
        for turn in range(500):
            goal = [(source.choice(MACHINE.rooms()), random_guard(source, ["x", "y", "z"])) for mark in range(turn % 4)]
            room = source.choice(MACHINE.rooms())
            values = random_values(source, 3, 3, 3)
            asked = any(room == marked and meets_guard(MACHINE, guard, values) for marked, guard in goal)
            seen.add(asked)
            self.assertIs(meets(MACHINE, goal, (room, pairs(values))), asked)
        self.assertEqual(seen, {True, False})


class GreatestTest(unittest.TestCase):
    def test_stays_doors_and_marks(self):
        self.assertEqual(greatest(MACHINE, []), [9, 7, 0])
        goal = [("b", [("z", "<", FORTY), ("x", ">=", 10), ("y", "=", 6)])]
        self.assertEqual(greatest(MACHINE, goal), [10, 7, FORTY])
        self.assertEqual(greatest(MACHINE, [("a", [("y", "<", 8)]), ("b", [("y", "<", 11)]), ("a", [])]), [9, 11, 0])

    def test_a_watch_asked_about_only_with_a_sign(self):
        machine = Machine(["x"], [("a", [])], [Door("a", "a", [("x", "<", 4)], [], "go?")])
        self.assertEqual(greatest(machine, []), [4])

    def test_a_watch_asked_about_only_in_a_stay_that_none_comes_to(self):
        machine = Machine(["x"], [("a", []), ("b", [("x", "<", 4)])], [])
        self.assertEqual(greatest(machine, []), [4])

    def test_no_watches(self):
        self.assertEqual(greatest(Machine([], [("a", [])], []), [("a", [])]), [])

    def test_random_machines(self):
        source = random.Random(2)
        for turn in range(200):
            watches = list("xyzuvwt")[:turn % 8]
            machine = random_machine(source, watches, ["a", "b"], 3, 9, ["", "go!"])
            goal = [(source.choice("ab"), random_guard(source, watches, 2, 12)) for mark in range(turn % 3)]
            self.assertEqual(greatest(machine, goal), slow_greatest(machine, goal))


class RefusingTest(unittest.TestCase):
    def check(self, goal):
        stand = ("a", [(0, 1)] * 3)
        refused(self, NoMark, meets, MACHINE, goal, stand)
        refused(self, NoMark, greatest, MACHINE, goal)
        self.assertIs(meets(MACHINE, [("a", [])], stand), True)

    def test_goals_and_marks_of_another_kind(self):
        for thing in ODD_THINGS:
            if thing != []:
                self.check(thing)
            self.check([thing])
            self.check([("a", []), thing])
        for thing in (("a", []), (("a", []),), [["a", []]], [("a",)], [("a", [], [])], {"a": []}):
            self.check(thing)

    def test_rooms(self):
        for room in ["", "d", "c", "a/b", "A", None, 0, True, ["a"], ("a",), {}]:
            self.check([(room, [])])
            self.check([("a", []), (room, [])])

    def test_guards(self):
        for thing in ODD_THINGS + [("x", "<", 3), (("x", "<", 3),)]:
            if thing != []:
                self.check([("a", thing)])
        for look in BAD_LOOKS:
            if look != ("z", "<", 3):
                self.check([("b", [("x", "<", 3), look])])
        self.check([("b", [("w", "<", 3)])])

    def test_a_bad_mark_behind_one_that_is_met(self):
        self.check([("a", []), ("b", [("w", "<", 3)])])


class StayingTest(unittest.TestCase):
    def test_nothing_is_changed_and_lists_are_new(self):
        goal = [("a", [("x", "<", 3)]), ("b", [])]
        kept(self, [goal], lambda goal: greatest(MACHINE, goal))
        kept(self, [goal, ("a", [(0, 1)] * 3)], lambda goal, stand: meets(MACHINE, goal, stand))

    def test_arguments_stand_as_told(self):
        for function, names in ((meets, ["machine", "goal", "stand"]), (greatest, ["machine", "goal"])):
            self.assertEqual(list(inspect.signature(function).parameters), names)


if __name__ == "__main__":
    unittest.main()
