import inspect
import random
import unittest

from helpers import (BAD_LOOKS, ODD_THINGS, kept, random_guard, random_machine, refused, slow_lets_by, slow_search,
                     spoil, told_by)
from zonewalk.claims import Claim, Never, NoSooner, Within, lets_claim
from zonewalk.errors import BadMachine, NoMark, NoRoom
from zonewalk.longs import cut_off, with_long
from zonewalk.machines import Door, Machine
from zonewalk.zones import everywhere

GUARD = [("x", ">", 1), ("y", "<=", 4)]
MACHINE = Machine(["x", "y"], [("a", [("x", "<=", 3)]), ("b", []), ("c", [("y", "<", 7)])],
                  [Door("a", "b", [("x", ">", 1)], ["x"]), Door("b", "c", [], ["y"]), Door("c", "a", [], ["x"], "go!"),
                   Door("c", "c", [("y", ">", 2)], ["y"])])
LONG = Machine(["x", "/"], [("a", []), ("b", [])], [])
SEVEN = Machine(list("tuvwxyz"), [("a", []), ("b", [])], [])


def some_claims(source, machine):
    room = source.choice(machine.rooms())
    guard = random_guard(source, machine.watches(), 2, 4)
    number = source.randint(0, 5)
    return [Never(room, guard), NoSooner(room, guard, number), Within(room, number)]


class FieldTest(unittest.TestCase):
    def test_fields_and_bases(self):
        claim = Never("a", GUARD)
        self.assertEqual((claim.room, claim.guard), ("a", GUARD))
        claim = NoSooner("b", GUARD, 7)
        self.assertEqual((claim.room, claim.guard, claim.number), ("b", GUARD, 7))
        claim = Within("c", 0)
        self.assertEqual((claim.room, claim.number), ("c", 0))
        for kind in (Never, NoSooner, Within):
            self.assertEqual(kind.__bases__, (Claim,))

    def test_arguments_stand_as_told(self):
        told = [(Never, ["room", "guard"]), (NoSooner, ["room", "guard", "number"]), (Within, ["room", "number"]),
                (lets_claim, ["claim", "machine", "paper"])]
        for thing, names in told:
            self.assertEqual(list(inspect.signature(thing).parameters), names)
        for kind in (Never, NoSooner, Within):
            self.assertEqual(list(inspect.signature(kind.asked_of).parameters), ["self", "machine"])
            self.assertEqual(list(inspect.signature(kind.goal_on).parameters), ["self", "asked"])

    def test_making_one_refuses_nothing(self):
        for thing in ODD_THINGS:
            Never(thing, thing)
            NoSooner(thing, thing, thing)
            Within(thing, thing)


class AskedTest(unittest.TestCase):
    def test_the_machines(self):
        self.assertEqual(told_by(Never("b", GUARD).asked_of(MACHINE)), told_by(MACHINE))
        self.assertEqual(told_by(NoSooner("b", GUARD, 3).asked_of(MACHINE)), told_by(with_long(MACHINE)))
        for room in MACHINE.rooms():
            self.assertEqual(told_by(Within(room, 3).asked_of(MACHINE)), told_by(with_long(cut_off(MACHINE, room))))
        self.assertEqual([door.sign for door in Within("b", 3).asked_of(MACHINE).doors()], ["cut!", "cut!", "go!", ""])

    def test_never_takes_any_machine(self):
        self.assertEqual(told_by(Never("a", [("/", "<", 3)]).asked_of(LONG)), told_by(LONG))
        self.assertEqual(told_by(Never("a", [("t", "<", 3)]).asked_of(SEVEN)), told_by(SEVEN))

    def test_the_goals(self):
        for claim, goal in ((Never("b", GUARD), [("b", GUARD)]), (Never("b", []), [("b", [])]),
                            (NoSooner("b", GUARD, 3), [("b", [*GUARD, ("/", "<", 3)])]),
                            (NoSooner("a", [], 0), [("a", [("/", "<", 0)])]),
                            (Within("b", 3), [("a", [("/", ">", 3)]), ("c", [("/", ">", 3)])]),
                            (Within("a", 0), [("b", [("/", ">", 0)]), ("c", [("/", ">", 0)])])):
            self.assertEqual(kept(self, [], lambda: claim.goal_on(claim.asked_of(MACHINE))), goal)

    def test_the_only_room(self):
        machine = Machine([], [("a", [])], [])
        self.assertEqual(Within("a", 3).goal_on(Within("a", 3).asked_of(machine)), [])

    def test_lists_handed_in_may_change_behind(self):
        guard = list(GUARD)
        claims = [Never("b", guard), NoSooner("b", guard, 3)]
        spoil(guard)
        self.assertEqual(claims[0].goal_on(claims[0].asked_of(MACHINE)), [("b", GUARD)])
        self.assertEqual(claims[1].goal_on(claims[1].asked_of(MACHINE)), [("b", [*GUARD, ("/", "<", 3)])])
        self.assertEqual([claim.guard for claim in claims], [GUARD, GUARD])


class LetsClaimTest(unittest.TestCase):
    def test_random_papers(self):
        source = random.Random(1)
        seen = []
        for turn in range(150):
            watches = list("xyz")[:turn % 4]
            machine = random_machine(source, watches, "abc", source.randint(1, 6), 3, ["", "", "", "go!"])
            for claim in some_claims(source, machine):
                asked = claim.asked_of(machine)
                goal = claim.goal_on(asked)
                free = "/" if isinstance(claim, NoSooner) else None
                paper = [(room, zone) for room, zone, *rest in slow_search(asked, goal, free)[0]]
                if paper and source.random() < 0.3:
                    paper.pop()
                seen.append((slow_lets_by(asked, goal, paper), claim.__class__))
                self.assertIs(lets_claim(claim, machine, paper), seen[-1][0])
        for kind in (Never, NoSooner, Within):
            for answer in (True, False):
                self.assertGreater(seen.count((answer, kind)), 15)

    def test_by_hand(self):
        machine = Machine(["x"], [("a", [("x", "<=", 3)]), ("b", [])], [Door("a", "b", [("x", ">=", 2)], [])])
        # Watches x and /, the same till the end.
        first = ("a", [[1, 1, 1], [7, 1, 1], [7, 1, 1]])
        second = ("b", [[1, -3, -3], [None, 1, 1], [None, 1, 1]])
        self.assertIs(lets_claim(NoSooner("b", [], 2), machine, [first, second]), True)
        self.assertIs(lets_claim(NoSooner("b", [], 3), machine, [first, second]), False)
        self.assertIs(lets_claim(Within("b", 3), machine, [first]), True)
        self.assertIs(lets_claim(Within("b", 2), machine, [first]), False)
        paper = [("a", [[1, 1], [7, 1]]), ("b", [[1, -3], [None, 1]])]
        self.assertIs(lets_claim(Never("b", [("x", "<", 2)]), machine, paper), True)
        self.assertIs(lets_claim(Never("b", []), machine, paper), False)

    def test_within_of_the_first_room(self):
        self.assertIs(lets_claim(Within("a", 0), MACHINE, [("a", everywhere(3))]), True)

    def test_nothing_is_changed(self):
        claim = NoSooner("b", GUARD, 0)
        kept(self, [[("a", everywhere(3)), ("b", [[None] * 4 for row in range(4)])]],
             lambda paper: lets_claim(claim, MACHINE, paper))


class RefusingTest(unittest.TestCase):
    paper = [("a", everywhere(3))]

    def check(self, error, claim, machine=MACHINE, paper=paper):
        if error is not NoRoom:
            refused(self, error, lambda: claim.goal_on(claim.asked_of(machine)))
        refused(self, error, lets_claim, claim, machine, paper)
        self.assertIs(lets_claim(Within("a", 0), MACHINE, self.paper), True)

    def check_asked(self, error, claim, machine=MACHINE):
        refused(self, error, claim.asked_of, machine)
        self.check(error, claim, machine)

    def test_rooms(self):
        for room in ODD_THINGS + ["d", "A", "a/b", ["a"], ("a",)]:
            self.check_asked(NoMark, Never(room, []))
            self.check_asked(NoMark, NoSooner(room, [], 3))
            self.check_asked(NoMark, Within(room, 3))

    def test_guards(self):
        for thing in ODD_THINGS + [("x", "<", 3), (("x", "<", 3),)]:
            if thing != []:
                self.check_asked(NoMark, Never("a", thing))
                self.check_asked(NoMark, NoSooner("a", thing, 3))
        for look in BAD_LOOKS + [("/", "<", 3)]:
            self.check_asked(NoMark, Never("a", [("x", "<", 3), look]))
            self.check_asked(NoMark, NoSooner("a", [("x", "<", 3), look], 3))

    def test_numbers(self):
        for number in [-1, True, False, None, "3", "", [3], (3, 1), (3,), {}, 3.0]:
            for claim in (NoSooner("b", [], number), Within("b", number), Within("a", number)):
                asked = claim.asked_of(MACHINE)
                refused(self, NoMark, claim.goal_on, asked)
                self.check(NoMark, claim)

    def test_machines(self):
        for machine in (LONG, SEVEN):
            for claim in (NoSooner("a", [], 3), Within("a", 3)):
                self.check_asked(BadMachine, claim, machine)

    def test_bad_machine_ahead_of_no_mark(self):
        for machine in (LONG, SEVEN):
            for claim in (NoSooner("d", [], 3), NoSooner("a", None, 3), NoSooner("a", [("q", "<", 3)], 3),
                          Within("d", 3), Within(None, 3)):
                self.check_asked(BadMachine, claim, machine)
            for claim in (NoSooner("a", [], -1), Within("a", -1)):
                self.check(BadMachine, claim, machine)

    def test_no_room(self):
        bad = [("a", everywhere(3)), ("d", everywhere(3))]
        self.check(NoRoom, Never("b", []), MACHINE, [("d", everywhere(2))])
        self.check(NoRoom, NoSooner("b", [], 3), MACHINE, bad)
        self.check(NoRoom, Within("b", 3), MACHINE, bad)

    def test_no_mark_ahead_of_no_room(self):
        bad = [("d", everywhere(3))]
        for claim in (NoSooner("b", [], -1), NoSooner("d", [], 1), Within("b", True), Within("d", 1), Never("d", []),
                      Never("b", [("z", "<", 3)])):
            self.check(NoMark, claim, MACHINE, bad)
        self.check(BadMachine, Within("a", 3), LONG, bad)


if __name__ == "__main__":
    unittest.main()
