import inspect
import itertools
import random
import unittest
from fractions import Fraction

from helpers import ODD_THINGS, as_run, kept, random_machine, random_walk, refused, slow_stands, spoil
from zonewalk.errors import BadMachine, TooMany
from zonewalk.machines import Door, Machine
from zonewalk.runner import stands, walked
from zonewalk.together import shares, together

NAMES = ["a", "b", "c", "d", "e", "f", "g", "h", "i"]


def rooms(*names):
    return [(name, []) for name in names]


def plain_machine(many_rooms, doors=0, sign=""):
    names = [one + other for one, other in itertools.product("abcdefgh", repeat=2)][:many_rooms]
    return Machine([], rooms(*names), [Door("aa", "aa", [], [], sign) for turn in range(doors)])


def told_by(door):
    return (door.start, door.end, door.asks(), door.sets(), door.sign)


def slow_doors(machines):
    """The doors of the whole and their shares, by the words of the document: every door against every room."""
    takings = list(itertools.product(*[machine.rooms() for machine in machines]))
    told = []

    def put(share):
        for taking in takings:
            doors = [machines[at].doors()[number] for at, number in share]
            if all(taking[at] == door.start for (at, number), door in zip(share, doors)):
                ends = list(taking)
                for (at, number), door in zip(share, doors):
                    ends[at] = door.end
                told.append((share, ("/".join(taking), "/".join(ends), sum([door.asks() for door in doors], []),
                                     sum([door.sets() for door in doors], []), "")))
    for at, machine in enumerate(machines):
        for number, door in enumerate(machine.doors()):
            if door.sign == "":
                put([(at, number)])
            elif door.sign[-1] == "!":
                for other_at, other in enumerate(machines):
                    for other_number, other_door in enumerate(other.doors()):
                        if other_at != at and other_door.sign == door.sign[:-1] + "?":
                            put([(at, number), (other_at, other_number)])
    return told


def some_parts(source, many):
    watches = list("xyzuvwt")[:source.randint(0, 7)]
    cuts = sorted(source.randint(0, len(watches)) for turn in range(many - 1))
    shares_out = [watches[low:high] for low, high in zip([0, *cuts], [*cuts, len(watches)])]
    sizes = {1: 4, 2: 3, 3: 2, 4: 2, 5: 2, 6: 1}
    signs = ["", "go!", "go?", "stop!", "stop?"]
    return [random_machine(source, own, NAMES[:source.randint(1, sizes[many])], source.randint(0, 3), signs=signs)
            for own in shares_out]


class WholeTest(unittest.TestCase):
    def test_the_order_of_rooms(self):
        whole = together([Machine([], rooms("a", "b"), []), Machine([], rooms("c", "d"), [])])
        self.assertEqual(whole.rooms(), ["a/c", "a/d", "b/c", "b/d"])
        whole = together([Machine([], rooms("b", "a"), []), Machine([], rooms("d"), []),
                          Machine([], rooms("f", "e"), [])])
        self.assertEqual(whole.rooms(), ["b/d/f", "b/d/e", "a/d/f", "a/d/e"])

    def test_watches_and_stays(self):
        one = Machine(["x", "/"], [("a", [("x", "<", 3), ("/", "<=", 4)]), ("b", [])], [])
        other = Machine(["b", "a"], [("c", [("a", "<=", 1), ("b", "<", 2)]), ("d", [])], [])
        whole = together([one, other])
        self.assertEqual(whole.watches(), ["x", "/", "b", "a"])
        self.assertEqual(whole.stay("a/c"), [("x", "<", 3), ("/", "<=", 4), ("a", "<=", 1), ("b", "<", 2)])
        self.assertEqual(whole.stay("a/d"), [("x", "<", 3), ("/", "<=", 4)])
        self.assertEqual(whole.stay("b/c"), [("a", "<=", 1), ("b", "<", 2)])
        self.assertEqual(whole.stay("b/d"), [])
        self.assertEqual(together([other, one]).watches(), ["b", "a", "x", "/"])

    def test_a_machine_alone(self):
        door = Door("a", "b", [("x", ">", 1)], ["x"])
        whole = together([Machine(["x"], [("a", [("x", "<", 3)]), ("b", [])],
                                  [Door("b", "a", [], [], "go!"), door, Door("a", "b", [], [], "go?")])])
        self.assertEqual((whole.watches(), whole.rooms(), whole.stay("a")), (["x"], ["a", "b"], [("x", "<", 3)]))
        self.assertEqual([told_by(told) for told in whole.doors()], [told_by(door)])

    def test_random_parts_against_the_words(self):
        source = random.Random(1)
        signed = 0
        for turn in range(300):
            parts = some_parts(source, 1 + turn % 6)
            asked = slow_doors(parts)
            if len(asked) > 200:
                continue
            whole = together(parts)
            self.assertEqual([told_by(door) for door in whole.doors()], [door for share, door in asked])
            self.assertEqual(shares(parts), [share for share, door in asked])
            self.assertEqual(whole.watches(), sum([part.watches() for part in parts], []))
            takings = list(itertools.product(*[part.rooms() for part in parts]))
            self.assertEqual(whole.rooms(), ["/".join(taking) for taking in takings])
            for taking in takings:
                stays = [part.stay(room) for part, room in zip(parts, taking)]
                self.assertEqual(whole.stay("/".join(taking)), sum(stays, []))
            signed += any(len(share) == 2 for share, door in asked)
        self.assertGreater(signed, 50)

    def test_one_machine_several_times(self):
        part = Machine([], rooms("a", "b"), [Door("a", "b", [], [])])
        whole = together([part, part])
        self.assertEqual([(door.start, door.end) for door in whole.doors()],
                         [("a/a", "b/a"), ("a/b", "b/b"), ("a/a", "a/b"), ("b/a", "b/b")])
        self.assertEqual(shares([part, part]), [[(0, 0)], [(0, 0)], [(1, 0)], [(1, 0)]])


class SignTest(unittest.TestCase):
    def call(self, watch, sign, count=1):
        return Machine([watch], rooms("a", "b"), [Door("a", "b", [(watch, ">", turn)], [watch], sign)
                                                  for turn in range(count)])

    def test_guards_and_noughts_of_both_the_call_ahead(self):
        for machines, share in (([self.call("x", "go!"), self.call("y", "go?")], [(0, 0), (1, 0)]),
                                ([self.call("y", "go?"), self.call("x", "go!")], [(1, 0), (0, 0)])):
            doors = together(machines).doors()
            self.assertEqual([told_by(door) for door in doors],
                             [("a/a", "b/b", [("x", ">", 0), ("y", ">", 0)], ["x", "y"], "")])
            self.assertEqual(shares(machines), [share])

    def test_several_answers_in_two_machines_and_in_one(self):
        machines = [self.call("y", "go?", 2), self.call("x", "go!", 2), self.call("z", "go?")]
        told = shares(machines)
        self.assertEqual(told, [[(1, 0), (0, 0)]] * 2 + [[(1, 0), (0, 1)]] * 2 + [[(1, 0), (2, 0)]] * 2
                         + [[(1, 1), (0, 0)]] * 2 + [[(1, 1), (0, 1)]] * 2 + [[(1, 1), (2, 0)]] * 2)
        self.assertEqual([(door.start, door.end) for door in together(machines).doors()][:6],
                         [("a/a/a", "b/b/a"), ("a/a/b", "b/b/b"), ("a/a/a", "b/b/a"), ("a/a/b", "b/b/b"),
                          ("a/a/a", "a/b/b"), ("b/a/a", "b/b/b")])

    def test_no_answer(self):
        for signs in (["go!", "stop?"], ["go!", "go!"], ["go?", "go?"], ["go!", ""], ["go!", "g?"]):
            machines = [self.call("x", signs[0]), self.call("y", signs[1])]
            alone = [share for share in shares(machines) if signs[1] == ""]
            self.assertEqual(shares(machines), alone)
            self.assertTrue(all(share == [(1, 0)] for share in alone))

    def test_none_answers_itself(self):
        both = Machine([], rooms("a"), [Door("a", "a", [], [], "go!"), Door("a", "a", [], [], "go?")])
        self.assertEqual(shares([both]), [])
        self.assertEqual(shares([both, both]), [[(0, 0), (1, 1)], [(1, 0), (0, 1)]])


class RefusingTest(unittest.TestCase):
    def check(self, error, machines):
        refused(self, error, together, machines)
        refused(self, error, shares, machines)
        self.assertEqual(together([plain_machine(1)]).rooms(), ["aa"])

    def test_what_is_no_such_list(self):
        for thing in ODD_THINGS + [(plain_machine(1),), "together"]:
            self.check(BadMachine, thing)
            self.check(BadMachine, [plain_machine(1), thing])
        self.check(BadMachine, plain_machine(1))
        self.check(BadMachine, [])
        self.check(BadMachine, [Door("a", "a", [], [])])
        self.check(BadMachine, [plain_machine(1)] * 7)
        self.assertEqual(len(together([plain_machine(1)] * 6).rooms()), 1)

    def test_watches_twice_and_too_many(self):
        def with_watches(*names):
            return Machine(list(names), rooms("a"), [])
        self.check(BadMachine, [with_watches("x"), with_watches("y", "x")])
        self.check(BadMachine, [with_watches("/"), with_watches("y"), with_watches("/")])
        self.check(BadMachine, [with_watches("a", "b", "c", "d"), with_watches("e", "f", "g", "h")])
        self.assertEqual(len(together([with_watches("a", "b", "c", "d"), with_watches("e", "f", "g")]).watches()), 7)

    def test_rooms_at_the_edge(self):
        self.assertEqual(len(together([plain_machine(8), plain_machine(8)]).rooms()), 64)
        self.check(TooMany, [plain_machine(5), plain_machine(13)])
        self.assertEqual(len(together([plain_machine(2)] * 6).rooms()), 64)
        self.check(TooMany, [plain_machine(3), *[plain_machine(2)] * 5])
        self.check(TooMany, [plain_machine(64)] * 6)

    def test_names_twice(self):
        one = Machine([], rooms("a", "a/b"), [])
        self.check(BadMachine, [one, Machine([], rooms("b/c", "c"), [])])
        self.assertEqual(together([one, Machine([], rooms("c"), [])]).rooms(), ["a/c", "a/b/c"])
        self.check(BadMachine, [Machine([], rooms("/", "//"), []), Machine([], rooms("/", "//"), [])])

    def test_names_too_long(self):
        long = Machine([], rooms("a" * 30), [])
        self.assertEqual(together([long, Machine([], rooms("b" * 29), [])]).rooms(), ["a" * 30 + "/" + "b" * 29])
        self.check(BadMachine, [long, Machine([], rooms("b" * 30), [])])
        self.check(BadMachine, [long, Machine([], rooms("b", "b" * 30), [])])
        self.assertEqual(together([Machine([], rooms("a" * 60), [])]).rooms(), ["a" * 60])

    def test_doors_at_the_edge(self):
        self.assertEqual(len(together([plain_machine(1, 200)]).doors()), 200)
        self.assertEqual(len(together([plain_machine(2), plain_machine(1, 100)]).doors()), 200)
        self.assertEqual(len(together([plain_machine(1, 100), plain_machine(1, 100)]).doors()), 200)
        self.check(TooMany, [plain_machine(1, 101), plain_machine(1, 100)])
        self.check(TooMany, [plain_machine(3), plain_machine(1, 67)])
        self.assertEqual(len(together([plain_machine(1, 10, "go!"), plain_machine(1, 20, "go?")]).doors()), 200)
        self.check(TooMany, [plain_machine(1, 3, "go!"), plain_machine(1, 67, "go?")])
        self.check(TooMany, [plain_machine(1, 200, "go!"), *[plain_machine(1, 200, "go?")] * 5])

    def test_the_order_of_refusals(self):
        x = Machine(["x"], rooms("a"), [])
        many_rooms = plain_machine(33)
        twice = [Machine([], rooms("a", "a/b"), []), Machine([], rooms("b/c", "c"), [])]
        self.check(BadMachine, [x, x, many_rooms, many_rooms])
        self.check(BadMachine, [many_rooms, many_rooms, None])
        self.check(TooMany, [*twice, plain_machine(17)])
        self.check(TooMany, [Machine([], rooms("a" * 60), []), many_rooms, plain_machine(2)])
        self.check(BadMachine, [*twice, plain_machine(1, 51)])
        self.check(TooMany, [twice[0], plain_machine(1, 101)])
        self.check(BadMachine, [Machine([], rooms("a" * 60), []), plain_machine(1, 101), plain_machine(1, 101)])
        self.check(TooMany, [plain_machine(65 // 5), plain_machine(5, 101)])
        self.check(BadMachine, [x, x, plain_machine(1, 200), plain_machine(1, 200)])


class RunTest(unittest.TestCase):
    def part_runs(self, parts, run):
        told = shares(parts)
        runs = []
        for at in range(len(parts)):
            doors = [dict(told[door]).get(at) if door is not None else None for wait, door in run]
            runs.append([(wait, door) for (wait, old), door in zip(run, doors)])
        return runs

    def test_a_run_of_the_whole_is_a_run_of_each_part(self):
        source = random.Random(2)
        gone = 0
        for turn in range(120):
            parts = some_parts(source, 1 + turn % 4)
            if len(slow_doors(parts)) > 200:
                continue
            whole = together(parts)
            run = as_run(random_walk(source, whole, 6, 3))
            if not isinstance(slow_stands(whole, []), list):
                continue
            gone += len([door for wait, door in run if door is not None])
            all_stands = [stands(part, own, False) for part, own in zip(parts, self.part_runs(parts, run))]
            for place, (room, values) in enumerate(stands(whole, run)):
                self.assertEqual("/".join(told[place][0] for told in all_stands), room)
                self.assertEqual(sum([told[place][1] for told in all_stands], []), values)
        self.assertGreater(gone, 100)

    def test_runs_of_all_parts_are_a_run_of_the_whole(self):
        source = random.Random(3)
        gone = 0
        for turn in range(250):
            parts = some_parts(source, 1 + turn % 4)
            if len(slow_doors(parts)) > 200 or any(isinstance(slow_stands(part, []), int) for part in parts):
                continue
            whole = together(parts)
            runs = [[] for part in parts]
            for step in range(8):
                wait = Fraction(source.randint(0, 6), source.randint(1, 3))
                doors = self.some_doors(source, parts)
                longer = [run + [(wait, door)] for run, door in zip(runs, doors)]
                if all(isinstance(slow_stands(part, run, False), list) for part, run in zip(parts, longer)):
                    runs = longer
                    gone += any(door is not None for door in doors)
            run = self.whole_run(parts, whole, runs)
            ends = [walked(part, as_run(own), False) for part, own in zip(parts, runs)]
            self.assertEqual(walked(whole, as_run(run)),
                             ("/".join(room for room, values in ends), sum([values for room, values in ends], [])))
        self.assertGreater(gone, 60)

    def some_doors(self, source, parts):
        doors = [None for part in parts]
        at = source.randrange(len(parts))
        if not parts[at].doors() or source.random() < 0.2:
            return doors
        number = source.randrange(len(parts[at].doors()))
        sign = parts[at].doors()[number].sign
        answers = [(other, place) for other, part in enumerate(parts) for place, door in enumerate(part.doors())
                   if other != at and sign.endswith("!") and door.sign == sign[:-1] + "?"]
        if sign == "" or answers:
            doors[at] = number
        if answers:
            other, place = source.choice(answers)
            doors[other] = place
        return doors

    def whole_run(self, parts, whole, runs):
        told = shares(parts)
        run = []
        for steps in zip(*runs):
            goers = sorted((at, door) for at, (wait, door) in enumerate(steps) if door is not None)
            here = slow_stands(whole, run)[-1][0]
            doors = [number for number, share in enumerate(told)
                     if goers and sorted(share) == goers and whole.doors()[number].start == here]
            run.append((steps[0][0], doors[0] if doors else None))
            self.assertEqual(bool(doors), bool(goers))
        return run


class StayingTest(unittest.TestCase):
    def test_nothing_is_changed_and_lists_are_new(self):
        parts = [Machine(["x"], [("a", [("x", "<", 9)])], [Door("a", "a", [], ["x"], "go!"), Door("a", "a", [], [])]),
                 Machine([], rooms("a", "b"), [Door("a", "b", [], [], "go?"), Door("a", "b", [], [], "go?")])]
        handed = list(parts)
        told = shares(handed)
        self.assertEqual(handed, parts)
        spoil(told)
        kept(self, [], lambda: shares(handed))
        whole = together(handed)
        handed.clear()
        self.assertEqual(whole.rooms(), ["a/a", "a/b"])
        spoil(whole.doors()[0].asks())
        self.assertEqual([told_by(door) for door in whole.doors()],
                         [told_by(door) for door in together(parts).doors()])

    def test_arguments_stand_as_told(self):
        for function in (together, shares):
            self.assertEqual(list(inspect.signature(function).parameters), ["machines"])


if __name__ == "__main__":
    unittest.main()
