import copy
import inspect
import random
import unittest

from helpers import (BAD_LOOKS, FORTY, ODD_THINGS, at_most, below, kept, meets_guard, random_bound, random_guard,
                     random_machine, random_walk, random_zone, refused, slow_lets_by, slow_search, slow_stands)
from zonewalk.errors import NoMark, NoRoom
from zonewalk.machines import Door, Machine
from zonewalk.papers import lets_by
from zonewalk.search import searched
from zonewalk.zones import everywhere, nought

EMPTY = [[at_most(-1), None], [None, None]]
# In a till x is 3, then back with x set to 0 from 2 on.
TURN = Machine(["x"], [("a", [("x", "<=", 3)]), ("b", [("x", "<", 9)])],
               [Door("a", "a", [("x", ">=", 2)], ["x"]), Door("a", "b", [("x", ">", 5)], []),
                Door("a", "b", [], [], "go!")])


def between(low, high):
    return [[at_most(0), low], [high, at_most(0)]]


def some_papers(seed, count):
    """Machines, goals and papers of searches, some of them changed somewhere."""
    source = random.Random(seed)
    for turn in range(count):
        watches = list("xyzuvw")[:turn % 4]
        machine = random_machine(source, watches, "abc", source.randint(1, 6), 3, ["", "", "", "go!"])
        goal = [(source.choice("abc"), random_guard(source, watches, 2, 4)) for mark in range(source.randint(0, 3))]
        nodes, hit = slow_search(machine, goal, None, source.random() < 0.7)
        paper = [(room, copy.deepcopy(zone)) for room, zone, before, door in nodes]
        yield source, machine, goal, changed(source, machine, paper), nodes, hit


def changed(source, machine, paper):
    many = len(machine.watches())
    choice = source.random()
    if choice < 0.25 or not paper:
        return paper
    if choice < 0.4:
        paper.pop(source.randrange(len(paper)))
    elif choice < 0.6:
        zone = source.choice(paper)[1]
        i, j = source.randint(0, many), source.randint(0, many)
        zone[i][j] = source.choice([None, random_bound(source, -3, 4), (zone[i][j] or 9) - 1, (zone[i][j] or 9) + 1])
    elif choice < 0.8:
        paper.insert(source.randint(0, len(paper)), (source.choice("abc"), random_zone(source, many)))
    else:
        source.shuffle(paper)
        paper.append(("b", everywhere(many)))
    return paper


class LetsByTest(unittest.TestCase):
    def test_random_papers_against_the_words(self):
        seen = []
        for source, machine, goal, paper, nodes, hit in some_papers(1, 600):
            seen.append(slow_lets_by(machine, goal, paper))
            self.assertIs(lets_by(machine, goal, paper), seen[-1])
        self.assertGreater(seen.count(True), 100)
        self.assertGreater(seen.count(False), 100)

    def test_no_run_breaks_what_is_let_by(self):
        stands = 0
        for source, machine, goal, paper, nodes, hit in some_papers(2, 250):
            if not lets_by(machine, goal, paper):
                continue
            told = slow_stands(machine, random_walk(source, machine, 6))
            if isinstance(told, list):
                for room, values in told:
                    stands += 1
                    met = [room == marked and meets_guard(machine, guard, values) for marked, guard in goal]
                    self.assertFalse(any(met))
        self.assertGreater(stands, 200)

    def test_the_paper_of_a_search_without_a_hit(self):
        held = 0
        for source, machine, goal, paper, nodes, hit in some_papers(3, 250):
            if len(slow_search(machine, goal)[0]) > 200:
                continue
            nodes, hit = searched(machine, goal)
            paper = [(room, zone) for room, zone, before, door in nodes]
            self.assertIs(lets_by(machine, goal, paper), not hit if nodes else True)
            held += not hit
        self.assertGreater(held, 60)

    def test_by_hand(self):
        goal = [("b", [])]
        self.assertIs(lets_by(TURN, goal, [("a", between(1, at_most(3)))]), True)
        self.assertIs(lets_by(TURN, goal, [("a", between(1, at_most(4)))]), True)
        self.assertIs(lets_by(TURN, goal, [("a", between(1, at_most(5)))]), True)
        # Wider still, the door to b is open by it.
        self.assertIs(lets_by(TURN, goal, [("a", between(1, at_most(6)))]), False)
        # Narrower by one, the wait leads out of it.
        self.assertIs(lets_by(TURN, goal, [("a", between(1, below(3)))]), False)
        self.assertIs(lets_by(TURN, goal, [("a", between(1, at_most(2)))]), False)

    def test_the_start_is_asked_for(self):
        self.assertIs(lets_by(TURN, [], [("a", between(below(0), at_most(3)))]), False)
        self.assertIs(lets_by(TURN, [], [("b", between(1, below(9)))]), False)
        self.assertIs(lets_by(TURN, [], [("b", between(1, below(9))), ("a", between(1, at_most(3)))]), True)

    def test_the_start_is_asked_for_in_the_first_room(self):
        machine = Machine([], [("a", []), ("b", [])], [])
        self.assertIs(lets_by(machine, [], [("b", [[1]])]), False)
        self.assertIs(lets_by(machine, [], [("a", [[1]])]), True)

    def test_an_empty_paper_and_an_empty_zone_alone(self):
        self.assertIs(lets_by(TURN, [], []), False)
        self.assertIs(lets_by(TURN, [], [("a", EMPTY)]), False)
        self.assertIs(lets_by(TURN, [], [("a", EMPTY), ("a", between(1, at_most(3))), ("b", EMPTY)]), True)
        self.assertIs(lets_by(TURN, [("b", [])], [("b", EMPTY), ("a", between(1, at_most(3)))]), True)

    def test_a_start_that_is_not_legal(self):
        machine = Machine(["x"], [("a", [("x", "<", 0)]), ("b", [("x", "<=", 1)])], [Door("b", "a", [], ["x"])])
        self.assertIs(lets_by(machine, [("a", [])], []), True)
        self.assertIs(lets_by(machine, [("a", [])], [("b", EMPTY)]), True)
        self.assertIs(lets_by(machine, [("a", [])], [("b", between(1, at_most(1)))]), True)
        # The other three are asked for all the same.
        self.assertIs(lets_by(machine, [("b", [])], [("b", between(1, at_most(1)))]), False)
        self.assertIs(lets_by(machine, [], [("b", nought(1))]), False)

    def test_a_zone_that_two_others_cover_together(self):
        goal = [("b", [])]
        one = between(1, at_most(2))
        other = between(at_most(-2), at_most(3))
        self.assertIs(lets_by(TURN, goal, [("a", one), ("a", other)]), False)
        self.assertIs(lets_by(TURN, goal, [("a", one), ("a", other), ("a", between(1, at_most(3)))]), True)

    def test_zones_that_are_not_narrow(self):
        for low, high, answer in ((None, at_most(3), True), (at_most(5), at_most(5), True),
                                  (at_most(2), at_most(2), False)):
            for diagonal in (None, at_most(0), below(4)):
                self.assertIs(lets_by(TURN, [("b", [])], [("a", [[diagonal, low], [high, diagonal]])]), answer)
        self.assertIs(lets_by(TURN, [], [("a", [[None, None], [None, below(0)]])]), False)

    def test_a_zone_left_out(self):
        machine = Machine(["x"], [("a", [("x", "<=", 2)]), ("b", [])], [Door("a", "b", [("x", "=", 2)], [])])
        paper = [("a", between(1, at_most(2))), ("b", between(at_most(-2), None))]
        self.assertIs(lets_by(machine, [], paper), True)
        self.assertIs(lets_by(machine, [], paper[:1]), False)
        self.assertIs(lets_by(machine, [], paper[1:]), False)
        self.assertIs(lets_by(machine, [], [paper[0], ("b", between(below(-2), None))]), False)
        self.assertIs(lets_by(machine, [], [paper[0], ("b", between(at_most(-1), None))]), True)
        self.assertIs(lets_by(machine, [], [paper[0], ("a", between(at_most(-2), None))]), False)

    def test_the_stay_of_an_end_is_met_behind_the_noughts(self):
        for noughts, answer in ((["x"], False), ([], True)):
            machine = Machine(["x"], [("a", []), ("b", [("x", "<", 1)])], [Door("a", "b", [("x", ">", 5)], noughts)])
            self.assertIs(lets_by(machine, [], [("a", everywhere(1))]), answer)

    def test_two_marks_in_one_room(self):
        paper = [("a", between(1, at_most(3)))]
        bad = ("a", [("x", ">=", 3)])
        good = ("a", [("x", ">", 3)])
        for goal, answer in (([good], True), ([good, good], True), ([good, bad], False), ([bad, good], False)):
            self.assertIs(lets_by(TURN, goal, paper), answer)

    def test_doors_with_a_sign_do_not_count(self):
        machine = Machine([], [("a", []), ("b", [])], [Door("a", "b", [], [], "go!"), Door("a", "b", [], [], "go?")])
        self.assertIs(lets_by(machine, [("b", [])], [("a", [[1]])]), True)

    def test_seven_watches_and_long_numbers(self):
        watches = list("abcdefg")
        machine = Machine(watches, [("r", [("a", "<=", FORTY)])], [Door("r", "r", [("b", ">", FORTY - 1)], ["a", "b"])])
        nodes, hit = searched(machine, [("r", [("a", ">", FORTY)])])
        paper = [(room, zone) for room, zone, before, door in nodes]
        self.assertIs(lets_by(machine, [("r", [("a", ">", FORTY)])], paper), True)
        self.assertIs(lets_by(machine, [("r", [("a", ">=", FORTY)])], paper), False)


class RefusingTest(unittest.TestCase):
    paper = [("a", between(1, at_most(3)))]

    def check(self, error, goal, paper):
        refused(self, error, lets_by, TURN, goal, paper)
        self.assertIs(lets_by(TURN, [("b", [])], self.paper), True)

    def test_goals(self):
        for thing in ODD_THINGS:
            if thing != []:
                self.check(NoMark, thing, self.paper)
            self.check(NoMark, [thing], self.paper)
        for look in BAD_LOOKS:
            self.check(NoMark, [("b", [look])], self.paper)
        for mark in (("c", []), ("", []), (None, []), ("a", None), ("a", ()), ("a", [("y", "<", 3)])):
            self.check(NoMark, [("b", []), mark], self.paper)

    def test_rooms(self):
        for room in ["c", "", "A", "a/b", None, 0, True, ["a"], ("a",)]:
            self.check(NoRoom, [], [(room, everywhere(1))])
            self.check(NoRoom, [("b", [])], [*self.paper, (room, EMPTY)])

    def test_no_mark_ahead_of_no_room(self):
        self.check(NoMark, [("c", [])], [("c", everywhere(1))])
        self.check(NoMark, None, [("c", everywhere(1))])
        self.check(NoMark, [("a", [("x", "<", -1)])], [("c", everywhere(1))])


class StayingTest(unittest.TestCase):
    def test_nothing_is_changed(self):
        wide = [[None, at_most(5)], [at_most(5), None]]
        kept(self, [[("b", [])], [("a", wide), ("b", copy.deepcopy(EMPTY))]],
             lambda goal, paper: lets_by(TURN, goal, paper))

    def test_arguments_stand_as_told(self):
        self.assertEqual(list(inspect.signature(lets_by).parameters), ["machine", "goal", "paper"])


if __name__ == "__main__":
    unittest.main()
