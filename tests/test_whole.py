"""The promise over the whole program: runs that can be walked beside what the judge and the earliest time tell."""

import random
import unittest
from fractions import Fraction

from helpers import as_run, as_steps, meets_guard, random_guard, random_machine, slow_stands, slow_step
from zonewalk.claims import Never, NoSooner, Within, lets_claim
from zonewalk.earliest import earliest, earliest_run
from zonewalk.errors import TooMany
from zonewalk.judging import judge
from zonewalk.machines import Door, Machine
from zonewalk.runner import stands, total, walked
from zonewalk.texts import read_machine, read_run
from zonewalk.together import shares, together

WAITS = [Fraction(number, 2) for number in range(7)]
# A crossing: a train comes near, and the bar must be down while it is in.
TRAIN = ("watches x\nroom far\nroom near x<=5\nroom in x<=7\ndoor far near x:0 come!\ndoor near in x>=3\n"
         "door in far x<7 x:0 leave!")
BAR = ("watches y\nroom up\nroom falls y<=2\nroom down\nroom rises y<=2\ndoor up falls y:0 come?\n"
       "door falls down y>=1\ndoor down rises y:0 leave?\ndoor rises up y>=1\ndoor rises falls y:0 come?")
RUNS = ["", "0 -", "1 0", "1 0; 3 -", "9 0; 1/2 -; 3/2 -"]


def all_walks(machine, length):
    """The stands that runs of waits of halves come to, each with its total and the rooms that were gone through."""
    if not isinstance(slow_stands(machine, []), list):
        return []
    room, values = slow_stands(machine, [])[0]
    found = [(room, tuple(values), Fraction(0), (room,))]
    front = list(found)
    for turn in range(length):
        nearer = {}
        for room, values, time, rooms in front:
            for wait in WAITS:
                for number in [None, *range(len(machine.doors()))]:
                    behind = slow_step(machine, room, values, (wait, number))
                    if behind is not None:
                        told = (behind[0], tuple(behind[1]), time + wait, tuple(sorted({*rooms, behind[0]})))
                        nearer[told] = True
        front = list(nearer)[:250]
        found.extend(front)
    return found


class JudgeTest(unittest.TestCase):
    def check_walks(self, machine, walks, source):
        room = source.choice(machine.rooms())
        guard = random_guard(source, machine.watches(), 2, 4)
        number = source.randint(0, 4)
        told = []
        for claim in (Never(room, guard), NoSooner(room, guard, number), Within(room, number)):
            try:
                verdict = judge(claim, machine)
            except TooMany:
                continue
            told.append(verdict.held())
            if verdict.held():
                self.assertTrue(lets_claim(claim, machine, verdict.paper))
                self.check_held(machine, claim, walks)
            else:
                self.assertIsInstance(slow_stands(machine, as_steps(verdict.run)), list)
        self.check_earliest(machine, room, guard, walks)
        return told

    def check_held(self, machine, claim, walks):
        for room, values, time, rooms in walks:
            if isinstance(claim, Within):
                self.assertFalse(claim.room not in rooms and time > claim.number)
            elif room == claim.room and meets_guard(machine, claim.guard, values):
                self.assertIsInstance(claim, NoSooner)
                self.assertGreaterEqual(time, claim.number)

    def check_earliest(self, machine, room, guard, walks):
        told = earliest(machine, room, guard)
        times = [time for there, values, time, rooms in walks
                 if there == room and meets_guard(machine, guard, values)]
        if told is None:
            self.assertEqual(times, [])
        else:
            for time in times:
                self.assertTrue(time > told[0] or told[1] and time == told[0])
            run = earliest_run(machine, room, guard, (1, 10))
            self.assertTrue(told[0] <= Fraction(*total(run)) < told[0] + Fraction(1, 10))
            self.assertEqual(walked(machine, run)[0], room)

    def test_random_machines(self):
        source = random.Random(1)
        seen = []
        for turn in range(40):
            machine = random_machine(source, list("xy")[:turn % 3], "abc", source.randint(2, 5), 3)
            walks = all_walks(machine, 3)
            for question in range(3):
                seen.extend(self.check_walks(machine, walks, source))
        self.assertGreater(seen.count(True), 50)
        self.assertGreater(seen.count(False), 50)


class CrossingTest(unittest.TestCase):
    parts = [read_machine(TRAIN), read_machine(BAR)]
    whole = together(parts)

    def test_the_bar_is_down_while_the_train_is_in(self):
        for room in ("in/up", "in/falls", "in/rises"):
            verdict = judge(Never(room, []), self.whole)
            self.assertIs(verdict.held(), True)
            self.assertTrue(lets_claim(Never(room, []), self.whole, verdict.paper))
        self.assertIs(judge(Never("in/down", []), self.whole).held(), False)
        self.assertEqual(earliest(self.whole, "in/down", []), (3, True))
        self.assertEqual(earliest(self.whole, "far/rises", [("y", ">", 0)]), (3, False))

    def test_a_slower_bar_is_too_slow(self):
        slow = together([self.parts[0], read_machine(BAR.replace("falls y<=2", "falls y<=4"))])
        verdict = judge(Never("in/falls", []), slow)
        self.assertIs(verdict.held(), False)
        self.assertEqual(walked(slow, verdict.run)[0], "in/falls")
        self.assertIs(judge(NoSooner("in/falls", [], 3), slow).held(), True)

    def test_a_paper_of_the_one_does_not_serve_the_other(self):
        paper = judge(Never("in/falls", []), self.whole).paper
        slow = together([self.parts[0], read_machine(BAR.replace("falls y<=2", "falls y<=4"))])
        self.assertFalse(lets_claim(Never("in/falls", []), slow, paper))

    def test_runs_by_hand_are_runs_of_each_part(self):
        doors = {(door.start, door.end): number for number, door in enumerate(self.whole.doors())}
        comes = doors["far/up", "near/falls"]
        falls = doors["near/falls", "near/down"]
        enters = doors["near/down", "in/down"]
        leaves = doors["in/down", "far/rises"]
        again = doors["far/rises", "near/falls"]
        told = shares(self.parts)
        for steps in ([(9, comes)], [(0, comes), (1, falls), (2, enters), (1, leaves)],
                      [(0, comes), (Fraction(3, 2), falls), (Fraction(7, 2), enters), (Fraction(19, 10), leaves),
                       (Fraction(1, 3), again), (2, falls), (0, None)]):
            run = as_run(steps)
            ends = []
            for at, part in enumerate(self.parts):
                own = [(wait, None if door is None else dict(told[door]).get(at)) for wait, door in run]
                ends.append(stands(part, own, False))
            for place, (room, values) in enumerate(stands(self.whole, run)):
                self.assertEqual("/".join(end[place][0] for end in ends), room)
                self.assertEqual(sum([end[place][1] for end in ends], []), values)
                self.assertFalse(room in ("in/up", "in/falls", "in/rises"))

    def test_walks_of_the_whole_break_nothing_that_is_held(self):
        walks = all_walks(self.whole, 5)
        rooms = {room for room, values, time, gone in walks}
        self.assertGreater(len(rooms), 4)
        for room in self.whole.rooms():
            told = earliest(self.whole, room, [])
            times = [time for there, values, time, gone in walks if there == room]
            if told is None:
                self.assertEqual(times, [])
            elif times:
                self.assertLessEqual(told[0], min(times))
            self.assertIs(judge(Never(room, []), self.whole).held(), told is None)


class SmallTest(unittest.TestCase):
    def test_a_machine_of_one_room(self):
        machine = Machine([], [("a", [])], [])
        self.assertIs(judge(Never("a", []), machine).held(), False)
        self.assertEqual(earliest(machine, "a", []), (0, True))
        self.assertIs(judge(Within("a", 0), machine).held(), True)

    def test_runs_by_hand(self):
        machine = Machine(["x"], [("a", []), ("b", [("x", "<=", 3)])], [Door("a", "b", [("x", ">=", 1)], ["x"])])
        for text in RUNS:
            told = stands(machine, read_run(text))
            self.assertEqual(len(told), len(read_run(text)) + 1)
            for room, values in told:
                self.assertFalse(room == "b" and Fraction(*values[0]) > 3)
        self.assertIs(judge(Never("b", [("x", ">", 3)]), machine).held(), True)


if __name__ == "__main__":
    unittest.main()
