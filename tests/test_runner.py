import inspect
import random
import unittest
from fractions import Fraction

from helpers import FORTY, SIXTY, as_run, kept, pair, pairs, random_machine, random_walk, refused, slow_stands, spoil
from zonewalk.errors import NoRun
from zonewalk.fractions import is_fraction
from zonewalk.machines import Door, Machine
from zonewalk.runner import stands, start, total, walked

LAMP = Machine(["x", "y"], [("off", []), ("on", [("x", "<=", 5)]), ("dim", [("y", "<", 2)])],
               [Door("off", "on", [("y", ">=", 2)], ["x"]),
                Door("on", "off", [("x", "=", 5)], ["y", "x"]),
                Door("on", "dim", [], ["y"]),
                Door("off", "dim", [], []),
                Door("off", "on", [], ["x"], "go!"),
                Door("on", "off", [], [], "go?")])


class StartTest(unittest.TestCase):
    def test_the_first_room_and_noughts(self):
        self.assertEqual(start(LAMP), ("off", [(0, 1), (0, 1)]))
        self.assertEqual(start(Machine([], [("b", []), ("a", [])], [])), ("b", []))

    def test_also_where_it_is_not_legal(self):
        self.assertEqual(start(Machine(["x"], [("a", [("x", "<", 0)])], [])), ("a", [(0, 1)]))


class WalkedTest(unittest.TestCase):
    def check_run(self, machine, run, *told):
        self.assertEqual(walked(machine, run), told[-1])
        self.assertEqual(stands(machine, run), list(told))

    def check_refused(self, step, machine, run, *more):
        for ask in (walked, stands):
            self.assertEqual(refused(self, NoRun, ask, machine, run, *more).step, step)

    def test_no_steps(self):
        self.check_run(LAMP, [], ("off", [(0, 1), (0, 1)]))

    def test_waits_and_doors(self):
        run = [((5, 2), 0), ((1, 3), None), ((14, 3), 1), ((0, 1), 3)]
        self.check_run(LAMP, run, ("off", [(0, 1), (0, 1)]), ("on", [(0, 1), (5, 2)]), ("on", [(1, 3), (17, 6)]),
                       ("off", [(0, 1), (0, 1)]), ("dim", [(0, 1), (0, 1)]))

    def test_a_step_without_a_door(self):
        self.check_run(LAMP, [((1, 7), None)], ("off", [(0, 1), (0, 1)]), ("off", [(1, 7), (1, 7)]))
        self.check_run(LAMP, [((0, 1), None)], ("off", [(0, 1), (0, 1)]), ("off", [(0, 1), (0, 1)]))

    def test_random_machines_against_a_slow_runner(self):
        source = random.Random(1)
        lengths = []
        for turn in range(300):
            watches = ["x", "y", "z", "a", "b", "c", "d"][:source.randint(0, 7)]
            machine = random_machine(source, watches, ["a", "b", "c"], 8, signs=["", "", "go!", "go?"])
            alone = source.random() < 0.6
            steps = random_walk(source, machine, source.randint(0, 8), 4, alone)
            steps += [(Fraction(source.randint(-1, 9), 2), source.choice([None, -1, 0, 3, 7, 8])) for more in range(2)]
            asked = slow_stands(machine, steps, alone)
            if isinstance(asked, int):
                self.check_refused(asked, machine, as_run(steps), alone)
                steps = steps[:asked]
                asked = slow_stands(machine, steps, alone)
            if isinstance(asked, list):
                lengths.append(len(asked))
                asked = [(room, pairs(values)) for room, values in asked]
                self.assertEqual(stands(machine, as_run(steps), alone), asked)
                self.assertEqual(walked(machine, as_run(steps), alone), asked[-1])
        self.assertGreater(max(lengths), 6)

    def test_long_numbers(self):
        machine = Machine(["x"], [("a", [("x", "<=", FORTY)])], [Door("a", "a", [("x", ">", FORTY - 1)], ["x"])])
        near = pair(Fraction(FORTY) - Fraction(1, SIXTY))
        self.check_run(machine, [(near, 0), ((FORTY, 1), None)], ("a", [(0, 1)]), ("a", [(0, 1)]),
                       ("a", [(FORTY, 1)]))
        self.check_refused(1, machine, [(near, 0), (pair(FORTY + Fraction(1, SIXTY)), None)])
        self.check_refused(0, machine, [((FORTY - 1, 1), 0)])

    def test_a_start_that_is_not_legal(self):
        machine = Machine(["x"], [("a", [("x", "<", 0)]), ("b", [])], [Door("a", "b", [], [])])
        for run in ([], [((0, 1), None)], [((0, 1), 0)], [((1, 1), None), ((1, 1), 9)]):
            self.check_refused(0, machine, run)
            self.check_refused(0, machine, run, False)

    def test_a_wait_below_nought(self):
        self.check_refused(0, LAMP, [((-1, 1), None)])
        self.check_refused(1, LAMP, [((3, 1), None), ((-1, 9), 0)])

    def test_a_wait_just_at_a_stay_and_beyond(self):
        self.check_run(LAMP, [((2, 1), 0), ((5, 1), None)], ("off", [(0, 1), (0, 1)]), ("on", [(0, 1), (2, 1)]),
                       ("on", [(5, 1), (7, 1)]))
        self.check_refused(1, LAMP, [((2, 1), 0), (pair(5 + Fraction(1, SIXTY)), None)])
        dim = [((1, 1), 3)]
        self.assertEqual(walked(LAMP, dim + [((999, 1000), None)])[0], "dim")
        self.check_refused(1, LAMP, dim + [((1, 1), None)])
        # A door is no way out of a stay that is not met behind the wait.
        self.check_refused(1, LAMP, [((2, 1), 0), ((6, 1), 2)])

    def test_a_door_of_no_number(self):
        for number in (-1, -6, 6, 7, SIXTY, -SIXTY):
            self.check_refused(0, LAMP, [((2, 1), number)])
            self.check_refused(0, LAMP, [((2, 1), number)], False)
            self.check_refused(2, LAMP, [((1, 1), None), ((1, 1), None), ((2, 1), number)])

    def test_a_door_of_another_room(self):
        self.check_refused(0, LAMP, [((5, 1), 1)])
        self.check_refused(1, LAMP, [((2, 1), 0), ((2, 1), 0)])

    def test_a_guard_that_is_not_met(self):
        self.check_refused(0, LAMP, [((1, 1), 0)])
        self.check_refused(1, LAMP, [((2, 1), 0), ((4, 1), 1)])

    def test_the_stay_of_the_end_is_asked_behind_the_noughts(self):
        # By door 2 y is set to 0, so the stay of dim is met; by door 3 it is not.
        self.assertEqual(walked(LAMP, [((9, 1), 0), ((1, 1), 2)]), ("dim", [(1, 1), (0, 1)]))
        self.assertEqual(walked(LAMP, [((1, 1), 3)]), ("dim", [(1, 1), (1, 1)]))
        self.check_refused(0, LAMP, [((2, 1), 3)])

    def test_a_door_with_a_sign_alone_and_as_a_part(self):
        self.check_refused(0, LAMP, [((1, 1), 4)])
        self.check_refused(0, LAMP, [((1, 1), 4)], True)
        run = [((1, 1), 4), ((1, 1), 5), ((0, 1), 3)]
        self.assertEqual(stands(LAMP, run[:2], False), [("off", [(0, 1), (0, 1)]), ("on", [(0, 1), (1, 1)]),
                                                        ("off", [(1, 1), (2, 1)])])
        self.check_refused(2, LAMP, run, False)
        self.assertEqual(walked(LAMP, [((2, 1), 0)], False), ("on", [(0, 1), (2, 1)]))

    def test_the_first_step_that_cannot_be_made_counts(self):
        self.check_refused(1, LAMP, [((2, 1), 0), ((9, 1), None), ((-1, 1), None), ((1, 1), 77)])

    def test_a_right_run_behind_a_refused_one(self):
        self.check_refused(0, LAMP, [((1, 1), 0)])
        self.assertEqual(walked(LAMP, [((2, 1), 0)]), ("on", [(0, 1), (2, 1)]))


class TotalTest(unittest.TestCase):
    def test_the_sum_of_the_waits(self):
        self.assertEqual(total([]), (0, 1))
        self.assertEqual(total([((1, 2), 0), ((1, 3), None), ((1, 6), 7)]), (1, 1))
        self.assertEqual(total([((FORTY, 1), -4), ((1, FORTY), 10 ** 20)]), pair(FORTY + Fraction(1, FORTY)))

    def test_of_any_list_of_steps(self):
        source = random.Random(2)
        for turn in range(100):
            steps = [(Fraction(source.randint(0, 40), source.randint(1, 9)), source.choice([None, 0, 5]))
                     for step in range(source.randint(0, 12))]
            self.assertEqual(total(as_run(steps)), pair(sum([wait for wait, door in steps], Fraction(0))))
            self.assertTrue(is_fraction(total(as_run(steps))))


class StayingTest(unittest.TestCase):
    def test_nothing_is_changed_and_lists_are_new(self):
        run = [((2, 1), 0), ((0, 1), None), ((5, 1), 1), ((0, 1), None)]
        kept(self, [run], lambda run: walked(LAMP, run))
        kept(self, [run], lambda run: stands(LAMP, run))
        kept(self, [[]], lambda run: stands(LAMP, run))
        kept(self, [], lambda: start(LAMP))
        kept(self, [run], total)

    def test_a_stand_told_may_be_changed(self):
        spoil(start(LAMP))
        spoil(stands(LAMP, [((2, 1), 0)]))
        self.assertEqual(stands(LAMP, [((2, 1), 0)]), [("off", [(0, 1), (0, 1)]), ("on", [(0, 1), (2, 1)])])

    def test_arguments_stand_as_told(self):
        told = [(start, ["machine"]), (walked, ["machine", "run", "alone"]), (stands, ["machine", "run", "alone"]),
                (total, ["run"])]
        for function, names in told:
            self.assertEqual(list(inspect.signature(function).parameters), names)
        self.assertIs(inspect.signature(walked).parameters["alone"].default, True)
        self.assertIs(inspect.signature(stands).parameters["alone"].default, True)


if __name__ == "__main__":
    unittest.main()
