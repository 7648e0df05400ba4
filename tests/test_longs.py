import inspect
import random
import unittest

from helpers import ODD_THINGS, as_run, random_machine, random_walk, refused, slow_stands, told_by
from zonewalk.errors import BadMachine, NoMark, NoRun
from zonewalk.longs import cut_off, with_long
from zonewalk.machines import Door, Machine
from zonewalk.runner import total, walked


def some_machines(seed, count, watches_most):
    source = random.Random(seed)
    for turn in range(count):
        watches = list("xyzuvwt")[:turn % (watches_most + 1)]
        rooms = ["a", "b", "c/d", "e"]
        yield source, random_machine(source, watches, rooms, source.randint(0, 8), 4, ["", "go!", "go?"])


class LongTest(unittest.TestCase):
    def test_one_watch_more_and_all_else_the_same(self):
        for source, machine in some_machines(1, 60, 6):
            watches, rooms, doors = told_by(machine)
            self.assertEqual(told_by(with_long(machine)), (watches + ["/"], rooms, doors))
            self.assertEqual(told_by(machine), (watches, rooms, doors))

    def test_its_value_is_how_long_ago_the_start_was(self):
        for source, machine in some_machines(2, 40, 6):
            if isinstance(slow_stands(machine, []), list):
                run = as_run(random_walk(source, machine, 5))
                room, values = walked(machine, run)
                self.assertEqual(walked(with_long(machine), run), (room, values + [total(run)]))

    def test_refused(self):
        refused(self, BadMachine, with_long, Machine(["/"], [("a", [])], []))
        refused(self, BadMachine, with_long, Machine(["x", "/", "y"], [("a", [])], []))
        refused(self, BadMachine, with_long, Machine(list("abcdefg"), [("a", [])], []))
        refused(self, BadMachine, with_long, Machine(list("abcdef") + ["/"], [("a", [])], []))
        refused(self, BadMachine, with_long, with_long(Machine([], [("a", [])], [])))
        self.assertEqual(with_long(Machine(list("abcdef"), [("a", [])], [])).watches(), list("abcdef") + ["/"])
        self.assertEqual(with_long(Machine([], [("a", [])], [])).watches(), ["/"])


class CutTest(unittest.TestCase):
    def test_doors_at_the_room_bear_the_sign(self):
        for source, machine in some_machines(3, 60, 7):
            watches, rooms, doors = told_by(machine)
            for room in machine.rooms():
                cut = [door[:4] + ("cut!",) if room in door[:2] else door for door in doors]
                self.assertEqual(told_by(cut_off(machine, room)), (watches, rooms, cut))
                self.assertEqual(told_by(machine), (watches, rooms, doors))

    def test_a_door_from_the_room_to_itself_and_a_room_that_no_door_touches(self):
        machine = Machine(["x"], [("a", []), ("b", []), ("c", [])],
                          [Door("a", "a", [("x", ">", 1)], ["x"]), Door("a", "b", [], []),
                           Door("b", "a", [], [], "go?"), Door("b", "b", [], [], "go!")])
        self.assertEqual([door.sign for door in cut_off(machine, "a").doors()], ["cut!", "cut!", "cut!", "go!"])
        self.assertEqual([door.sign for door in cut_off(machine, "b").doors()], ["", "cut!", "cut!", "cut!"])
        self.assertEqual([door.sign for door in cut_off(machine, "c").doors()], ["", "", "go?", "go!"])
        refused(self, NoRun, walked, cut_off(machine, "a"), [((2, 1), 0)])
        self.assertEqual(walked(cut_off(machine, "b"), [((2, 1), 0)]), ("a", [(0, 1)]))

    def test_with_a_watch_of_the_long_name_and_with_seven(self):
        self.assertEqual(cut_off(Machine(["/"], [("a", [])], []), "a").watches(), ["/"])
        self.assertEqual(len(cut_off(Machine(list("abcdefg"), [("a", [])], []), "a").watches()), 7)

    def test_refused(self):
        machine = Machine([], [("a", []), ("b", [])], [Door("a", "b", [], [])])
        for room in ODD_THINGS + ["c", "A", "a/b", ["a"], ("a",)]:
            refused(self, NoMark, cut_off, machine, room)
            self.assertEqual(cut_off(machine, "a").doors()[0].sign, "cut!")


class InterfaceTest(unittest.TestCase):
    def test_arguments_stand_as_told(self):
        self.assertEqual(list(inspect.signature(with_long).parameters), ["machine"])
        self.assertEqual(list(inspect.signature(cut_off).parameters), ["machine", "room"])


if __name__ == "__main__":
    unittest.main()
