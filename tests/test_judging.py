import copy
import inspect
import random
import unittest
from fractions import Fraction

from helpers import (BAD_LOOKS, ODD_THINGS, as_steps, meets_guard, random_guard, random_machine, refused, slow_search,
                     slow_stands, spoil)
from zonewalk.claims import Never, NoSooner, Within, lets_claim
from zonewalk.errors import BadMachine, NoMark, TooMany
from zonewalk.goals import meets
from zonewalk.judging import Broken, Held, Verdict, judge
from zonewalk.machines import Door, Machine
from zonewalk.runner import stands, total, walked
from zonewalk.search import searched

# From a to b between 2 and 3, then from b to c behind 4 more.
CHAIN = Machine(["x"], [("a", [("x", "<=", 3)]), ("b", []), ("c", [])],
                [Door("a", "b", [("x", ">=", 2)], ["x"]), Door("b", "c", [("x", ">", 4)], [])])
LONG = Machine(["/"], [("a", []), ("b", [])], [Door("a", "b", [("/", ">", 2)], [])])


def free_of(claim):
    return "/" if isinstance(claim, NoSooner) else None


class JudgeTest(unittest.TestCase):
    def check_verdict(self, claim, machine, most=200):
        asked = claim.asked_of(machine)
        goal = claim.goal_on(asked)
        nodes, hit = slow_search(asked, goal, free_of(claim))
        if len(nodes) > most:
            refused(self, TooMany, judge, claim, machine, most)
            return None
        verdict = judge(claim, machine, most)
        self.assertIsInstance(verdict, Verdict)
        self.assertIs(verdict.held(), not hit)
        if verdict.held():
            self.check_held(claim, machine, verdict, nodes)
        else:
            self.check_broken(claim, machine, verdict, asked, goal)
        return verdict.held()

    def check_held(self, claim, machine, verdict, nodes):
        self.assertIs(type(verdict), Held)
        self.assertEqual(verdict.paper, [(room, zone) for room, zone, before, door in nodes])
        self.assertIs(lets_claim(claim, machine, verdict.paper), True)

    def check_broken(self, claim, machine, verdict, asked, goal):
        self.assertIs(type(verdict), Broken)
        run = verdict.run
        self.assertTrue(meets(asked, goal, walked(asked, run)))
        told = stands(machine, run)
        self.assertEqual(slow_stands(machine, as_steps(run))[-1][0], told[-1][0])
        self.assertLessEqual(len([door for wait, door in run if door is not None]), 200)
        time = Fraction(*total(run))
        if isinstance(claim, Within):
            self.assertGreater(time, claim.number)
            self.assertNotIn(claim.room, [room for room, values in told])
        else:
            self.assertEqual(told[-1][0], claim.room)
            self.assertTrue(meets_guard(machine, claim.guard, [Fraction(*value) for value in told[-1][1]]))
        if isinstance(claim, NoSooner):
            self.assertLess(time, claim.number)

    def test_random_claims(self):
        source = random.Random(1)
        seen = []
        for turn in range(160):
            watches = list("xyz")[:turn % 4]
            machine = random_machine(source, watches, "abc", source.randint(1, 6), 3, ["", "", "", "go!"])
            room = source.choice(machine.rooms())
            guard = random_guard(source, watches, 2, 4)
            for claim in (Never(room, guard), NoSooner(room, guard, source.randint(0, 6)),
                          Within(room, source.randint(0, 6))):
                seen.append((claim.__class__, self.check_verdict(claim, machine)))
        for kind in (Never, NoSooner, Within):
            for answer in (True, False):
                self.assertGreater(seen.count((kind, answer)), 15)

    def test_claims_that_hold_and_that_break(self):
        for claim, answer in (
                (Never("a", [("x", ">", 3)]), True), (Never("a", [("x", ">=", 3)]), False),
                (Never("b", [("x", "<", 0)]), True), (Never("c", [("x", "<=", 4)]), True), (Never("c", []), False),
                (NoSooner("a", [], 0), True), (NoSooner("a", [], 1), False), (NoSooner("b", [], 2), True),
                (NoSooner("b", [], 3), False), (NoSooner("c", [], 6), True), (NoSooner("c", [], 7), False),
                (NoSooner("c", [("x", ">", 9)], 11), True), (NoSooner("c", [("x", ">=", 9)], 12), False),
                (NoSooner("c", [("x", "<", 4)], 10 ** 40), True),
                (Within("b", 3), True), (Within("b", 2), False), (Within("c", 10 ** 40), False),
                (Within("a", 0), True)):
            self.assertIs(self.check_verdict(claim, CHAIN), answer, (claim.room, answer))

    def test_a_start_that_is_not_legal(self):
        machine = Machine(["x"], [("a", [("x", "<", 0)]), ("b", [])], [Door("a", "b", [], [])])
        for claim in (Never("a", []), NoSooner("a", [], 9), Within("b", 0)):
            verdict = judge(claim, machine, 1)
            self.assertIs(verdict.held(), True)
            self.assertEqual(verdict.paper, [])

    def test_a_mark_met_by_the_start(self):
        verdict = judge(Never("a", [("x", "=", 0)]), CHAIN, 1)
        self.assertIs(verdict.held(), False)
        self.assertEqual(walked(CHAIN, verdict.run), ("a", [(0, 1)]))

    def test_no_sooner_of_nought_and_within_of_the_first_room(self):
        for room in CHAIN.rooms():
            self.assertIs(judge(NoSooner(room, [], 0), CHAIN).held(), True)
        self.assertIs(judge(Within("a", 0), CHAIN).held(), True)

    def test_no_sooner_frees_the_long_watch(self):
        # Folded, this would list a zone for each round till the number; freed, it ends at once.
        machine = Machine(["x"], [("a", [("x", "<=", 1)]), ("b", [])],
                          [Door("a", "a", [("x", "=", 1)], ["x"]), Door("a", "b", [("x", ">", 0), ("x", "<", 0)], [])])
        verdict = judge(NoSooner("b", [], 10 ** 9), machine, 1)
        self.assertEqual(len(verdict.paper), 1)
        # Within does not, so it lists one for each round.
        refused(self, TooMany, judge, Within("b", 500), machine)

    def test_most_just_enough_and_one_too_few(self):
        for claim in (Never("c", [("x", "<=", 4)]), Never("c", []), NoSooner("c", [], 6), NoSooner("c", [], 7),
                      Within("c", 4), Within("c", 10 ** 20), Within("b", 3)):
            asked = claim.asked_of(CHAIN)
            many = len(searched(asked, claim.goal_on(asked), 200, free_of(claim))[0])
            self.assertIsNotNone(self.check_verdict(claim, CHAIN, many))
            if many > 1:
                refused(self, TooMany, judge, claim, CHAIN, many - 1)

    def test_two_hundred_where_most_is_left_out(self):
        def rounds(number):
            return Machine(["x", "y"], [("a", [("x", "<=", 1)]), ("b", [])],
                           [Door("a", "a", [("x", "=", 1)], ["x"]), Door("a", "b", [("y", "=", number)], [])])
        asked = Never("b", [("y", "<", 0)])
        number = 150 + 200 - len(searched(rounds(150), asked.goal_on(rounds(150)))[0])
        self.assertEqual(len(judge(asked, rounds(number)).paper), 200)
        refused(self, TooMany, judge, asked, rounds(number + 1))

    def test_a_machine_with_the_long_watch(self):
        self.assertIs(judge(Never("b", [("/", "<=", 2)]), LONG).held(), True)
        self.assertIs(judge(Never("b", [("/", "<=", 3)]), LONG).held(), False)

    def test_short_numbers_where_what_is_handed_in_is_short(self):
        far = 10 ** 18 - 1
        doors = [Door("a", "a", [("x", ">", far - 1), ("y", ">", 0)], ["x"]), Door("a", "b", [("y", ">", far)], [])]
        machine = Machine(["x", "y"], [("a", [("x", "<=", far)]), ("b", [])], doors)
        for claim in (Never("b", []), NoSooner("b", [("y", ">", far)], far), Within("b", far)):
            verdict = judge(claim, machine)
            if not verdict.held():
                self.assertLess(max(part for wait, door in verdict.run for part in wait), 10 ** 60)


class RefusingTest(unittest.TestCase):
    def check(self, error, claim, machine=CHAIN, most=200):
        refused(self, error, judge, claim, machine, most)
        self.assertIs(judge(Never("c", []), CHAIN).held(), False)

    def test_what_the_claims_refuse(self):
        for room in ODD_THINGS + ["d", "A"]:
            for claim in (Never(room, []), NoSooner(room, [], 3), Within(room, 3)):
                self.check(NoMark, claim)
        for look in BAD_LOOKS:
            self.check(NoMark, Never("a", [look]))
            self.check(NoMark, NoSooner("a", [look], 3))
        for number in (-1, True, None, "3", [3], (3, 1)):
            self.check(NoMark, NoSooner("a", [], number))
            self.check(NoMark, Within("a", number))
        for claim in (NoSooner("a", [], 3), Within("a", 3)):
            self.check(BadMachine, claim, LONG)
            self.check(BadMachine, claim, Machine(list("abcdefg"), [("a", [])], []))

    def test_the_order_of_refusals(self):
        self.check(BadMachine, NoSooner("d", None, -1), LONG, 1)
        self.check(BadMachine, Within("d", -1), LONG, 1)
        self.check(NoMark, Never("d", []), CHAIN, 1)
        self.check(NoMark, NoSooner("c", [], -1), CHAIN, 1)
        self.check(NoMark, NoSooner("c", [("y", "<", 1)], 1), CHAIN, 1)
        self.check(NoMark, Within("c", -1), CHAIN, 1)
        self.check(TooMany, Never("c", []), CHAIN, 1)
        self.check(TooMany, NoSooner("c", [], 9), CHAIN, 1)


class VerdictTest(unittest.TestCase):
    def test_fields_and_bases(self):
        paper = [("a", [[1]])]
        run = [((1, 2), None)]
        self.assertEqual((Held(paper).paper, Held(paper).held()), (paper, True))
        self.assertEqual((Broken(run).run, Broken(run).held()), (run, False))
        self.assertEqual((Held.__bases__, Broken.__bases__), ((Verdict,), (Verdict,)))

    def test_lists_are_new_each_time(self):
        for claim, field in ((Never("c", []), "run"), (Never("c", [("x", "<", 4)]), "paper")):
            first = getattr(judge(claim, CHAIN), field)
            told = copy.deepcopy(first)
            spoil(first)
            self.assertEqual(getattr(judge(claim, CHAIN), field), told)

    def test_lists_handed_in_may_change_behind(self):
        paper = [("a", [[1]])]
        run = [((1, 2), None)]
        verdicts = [Held(paper), Broken(run)]
        spoil(paper)
        spoil(run)
        self.assertEqual((verdicts[0].paper, verdicts[1].run), ([("a", [[1]])], [((1, 2), None)]))

    def test_arguments_stand_as_told(self):
        told = [(judge, ["claim", "machine", "most"]), (Held, ["paper"]), (Broken, ["run"])]
        for thing, names in told:
            self.assertEqual(list(inspect.signature(thing).parameters), names)
        self.assertEqual(inspect.signature(judge).parameters["most"].default, 200)


if __name__ == "__main__":
    unittest.main()
