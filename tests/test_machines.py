import copy
import inspect
import itertools
import unittest

from helpers import BAD_LOOKS, FORTY, ODD_THINGS, SIXTY, WORDS, kept, refused, spoil
from zonewalk.errors import BadMachine, NoMark, TooMany
from zonewalk.machines import Door, Machine, placed

WATCHES = ["x", "y"]
ROOMS = [("idle", [("x", "<=", 5)]), ("busy", [])]
GUARD = [("x", ">=", 2), ("y", "<", 4)]
BAD_NAMES = ["", "X", "x1", "abcdefghi", "x y", " x", "x!", "-", "x/", "//", "x\n", "`", "{", None, 3, True, ["x"],
             ("x",), {}]


def door(start="idle", end="busy", guard=GUARD, noughts=["x"], sign="go!"):
    return Door(start, end, guard, noughts, sign)


def some_names(many):
    return ["".join(signs) for signs in itertools.islice(itertools.product("abcdefgh", repeat=3), many)]


class DoorTest(unittest.TestCase):
    def test_what_it_tells(self):
        made = door()
        Machine(WATCHES, ROOMS, [made])
        self.assertEqual((made.start, made.end, made.sign), ("idle", "busy", "go!"))
        self.assertEqual(made.asks(), GUARD)
        self.assertEqual(made.sets(), ["x"])

    def test_the_sign_left_out(self):
        self.assertEqual(Door("a", "b", [], []).sign, "")
        Machine([], [("a", []), ("b", [])], [Door("a", "b", [], [])])

    def test_making_one_refuses_nothing(self):
        for thing in ODD_THINGS:
            for place in range(5):
                parts = ["a", "b", [], [], ""]
                parts[place] = thing
                Door(*parts)

    def test_lists_handed_in_and_told_are_its_own(self):
        guard = list(GUARD)
        noughts = ["x", "y"]
        made = Door("idle", "busy", guard, noughts)
        machine = Machine(WATCHES, ROOMS, [made])
        guard.append(("z", "<", 3))
        guard[0] = None
        noughts.clear()
        for turn in range(2):
            self.assertEqual(made.asks(), GUARD)
            self.assertEqual(made.sets(), ["x", "y"])
            spoil(made.asks())
            spoil(made.sets())
        self.assertEqual(machine.doors()[0].asks(), GUARD)

    def test_lists_changed_before_a_machine_takes_it(self):
        guard = list(GUARD)
        noughts = ["x"]
        made = Door("idle", "busy", guard, noughts)
        guard.append(None)
        noughts.append("x")
        machine = Machine(WATCHES, ROOMS, [made])
        self.assertEqual((made.asks(), made.sets()), (GUARD, ["x"]))
        self.assertEqual(len(machine.doors()), 1)


class MachineTest(unittest.TestCase):
    def test_what_it_tells(self):
        doors = [door(), door("busy", "idle", [], [], ""), door("busy", "busy", [("y", "=", 0)], ["y", "x"], "stop?")]
        machine = Machine(WATCHES, ROOMS, doors)
        self.assertEqual(machine.watches(), ["x", "y"])
        self.assertEqual(machine.rooms(), ["idle", "busy"])
        told = [(made.start, made.end, made.asks(), made.sets(), made.sign) for made in machine.doors()]
        self.assertEqual(told, [("idle", "busy", GUARD, ["x"], "go!"), ("busy", "idle", [], [], ""),
                                ("busy", "busy", [("y", "=", 0)], ["y", "x"], "stop?")])
        self.assertEqual(machine.stay("idle"), [("x", "<=", 5)])
        self.assertEqual(machine.stay("busy"), [])
        self.assertEqual([machine.watch_number(name) for name in WATCHES], [1, 2])

    def test_orders_are_as_handed_in(self):
        watches = ["y", "x", "/", "b", "a", "zz", "c"]
        names = ["b", "a", "c/d", "/", "//"]
        machine = Machine(watches, [(name, []) for name in names], [])
        self.assertEqual(machine.watches(), watches)
        self.assertEqual(machine.rooms(), names)
        self.assertEqual([machine.watch_number(name) for name in watches], [1, 2, 3, 4, 5, 6, 7])
        self.assertEqual(machine.doors(), [])

    def test_names_at_their_edges(self):
        Machine(["a", "z", "abcdefgh", "/"], [("a" * 60, []), ("/" * 60, []), ("z", []), ("a/z", [])],
                [Door("z", "a/z", [], [], sign) for sign in ("a!", "z?", "abcdefgh!", "")])

    def test_stays_of_both_words_and_long_numbers(self):
        stay = [("x", "<", 0), ("y", "<=", SIXTY), ("x", "<=", 0), ("x", "<", 0)]
        self.assertEqual(Machine(WATCHES, [("a", stay)], []).stay("a"), stay)

    def test_guards_of_each_word(self):
        guard = [("y", word, number) for word in WORDS for number in (0, 7, FORTY)]
        machine = Machine(WATCHES, ROOMS, [door(guard=guard)])
        self.assertEqual(machine.doors()[0].asks(), guard)

    def test_lists_handed_in_may_change_behind(self):
        watches = list(WATCHES)
        stay = [("x", "<=", 5)]
        rooms = [("idle", stay), ("busy", [])]
        doors = [door()]
        machine = Machine(watches, rooms, doors)
        for handed in (watches, stay, rooms, doors):
            spoil(handed)
            handed.clear()
        self.assertEqual(machine.watches(), WATCHES)
        self.assertEqual(machine.rooms(), ["idle", "busy"])
        self.assertEqual(machine.stay("idle"), [("x", "<=", 5)])
        self.assertEqual([made.start for made in machine.doors()], ["idle"])

    def test_lists_told_are_the_askers_own(self):
        machine = Machine(WATCHES, ROOMS, [door()])
        for turn in range(2):
            self.assertEqual(machine.watches(), WATCHES)
            self.assertEqual(machine.rooms(), ["idle", "busy"])
            self.assertEqual(machine.stay("idle"), [("x", "<=", 5)])
            self.assertEqual(len(machine.doors()), 1)
            for told in (machine.watches(), machine.rooms(), machine.stay("idle"), machine.doors()):
                spoil(told)

    def test_nothing_handed_in_is_changed(self):
        doors = [door()]
        things = [list(WATCHES), copy.deepcopy(ROOMS)]
        Machine(*things, doors)
        self.assertEqual(things, [WATCHES, ROOMS])
        self.assertEqual(len(doors), 1)
        refused(self, BadMachine, Machine, things[0], things[1], [None])
        self.assertEqual(things, [WATCHES, ROOMS])


class RefusingTest(unittest.TestCase):
    def check_bad(self, watches=WATCHES, rooms=ROOMS, doors=[]):
        with self.subTest(watches=watches, rooms=rooms, doors=doors):
            refused(self, BadMachine, Machine, watches, rooms, doors)
            Machine(WATCHES, ROOMS, [door()])

    def test_watches(self):
        for thing in ODD_THINGS + [("x", "y"), "xy", {"x": 1, "y": 2}]:
            if thing not in ([], ["x"]):
                self.check_bad(watches=thing, rooms=[("a", [])])
        for name in BAD_NAMES:
            self.check_bad(watches=["x", name], rooms=[("a", [])])
        self.check_bad(watches=["x", "y", "x"])
        self.check_bad(watches=["/", "x", "/"])
        self.check_bad(watches=["x", "y", "a", "b", "c", "d", "e", "f"])
        self.check_bad(watches=["x", "y", "!"])

    def test_rooms(self):
        for thing in ODD_THINGS + [(("idle", []),), {"idle": []}]:
            self.check_bad(rooms=thing)
            self.check_bad(rooms=[("a", []), thing])
        for thing in [("a",), ("a", [], []), ["a", []], "ab", ("a", [], ""), (), ("a", []) * 2]:
            self.check_bad(rooms=[thing])
        for name in BAD_NAMES + ["a" * 61, "/" * 61, "a/B", "a.b"]:
            if name not in ("x/", "//", "abcdefghi"):
                self.check_bad(rooms=[("idle", []), (name, [])])
        self.check_bad(rooms=[("a", []), ("b", []), ("a", [])])
        self.check_bad(rooms=[("a", []), ("a", [("x", "<", 3)])])

    def test_stays(self):
        for thing in ODD_THINGS + [(("x", "<", 3),), ("x", "<", 3)]:
            if thing != []:
                self.check_bad(rooms=[("a", thing)])
        for look in BAD_LOOKS + [("x", ">", 3), ("x", ">=", 3), ("x", "=", 3), ("/", "<", 3)]:
            self.check_bad(rooms=[("a", [("x", "<", 3), look])])

    def test_doors(self):
        for thing in ODD_THINGS + [(door(),), ("idle", "busy", [], [])]:
            if thing != []:
                self.check_bad(doors=thing)
            self.check_bad(doors=[door(), thing])
        for name in BAD_NAMES + ["idl", "idlee", ("idle",), ["idle"], 0]:
            self.check_bad(doors=[door(start=name)])
            self.check_bad(doors=[door(end=name)])

    def test_guards(self):
        for thing in ODD_THINGS + [(("x", "<", 3),), ("x", "<", 3)]:
            if thing != []:
                self.check_bad(doors=[door(guard=thing)])
        for look in BAD_LOOKS + [("/", "<", 3)]:
            self.check_bad(doors=[door(guard=[("x", "<", 3), look])])

    def test_noughts(self):
        for thing in ODD_THINGS:
            if thing not in ([], ["x"]):
                self.check_bad(doors=[door(noughts=thing)])
        for name in BAD_NAMES + ["z", "/", 1]:
            self.check_bad(doors=[door(noughts=["y", name])])
        self.check_bad(doors=[door(noughts=["x", "y", "x"])])

    def test_signs(self):
        bad = ["!", "?", "go", "go!!", "!go", "go !", "Go!", "abcdefghi!", "go!?", " go!", "go! ", "/!", "go/?", "g1!",
               "go.", " ", "\n"]
        for sign in bad + [None, True, False, 0, 3, [], ["go!"], ("go!",), {}]:
            self.check_bad(doors=[door(sign=sign)])

    def test_a_watch_of_no_watches(self):
        self.check_bad(watches=[], rooms=[("a", [("x", "<", 3)])])
        self.check_bad(watches=[], rooms=[("a", [])], doors=[Door("a", "a", [("x", "<", 3)], [])])
        self.check_bad(watches=[], rooms=[("a", [])], doors=[Door("a", "a", [], ["x"])])


class TooManyTest(unittest.TestCase):
    def rooms(self, many):
        return [(name, [("x", "<=", 5)]) for name in some_names(many)]

    def doors(self, many):
        return [Door("aaa", "aaa", list(GUARD), ["x"], "go!") for place in range(many)]

    def test_just_enough(self):
        machine = Machine(WATCHES, self.rooms(64), self.doors(200))
        self.assertEqual((len(machine.rooms()), len(machine.doors())), (64, 200))

    def test_one_too_many(self):
        refused(self, TooMany, Machine, WATCHES, self.rooms(65), [])
        refused(self, TooMany, Machine, WATCHES, self.rooms(65), self.doors(200))
        refused(self, TooMany, Machine, WATCHES, self.rooms(64), self.doors(201))
        refused(self, TooMany, Machine, WATCHES, self.rooms(65), self.doors(201))
        refused(self, TooMany, Machine, WATCHES, self.rooms(300), self.doors(900))
        Machine(WATCHES, self.rooms(64), self.doors(200))

    def test_with_another_thing_wrong(self):
        for rooms, doors in ((65, 0), (1, 201), (65, 201)):
            refused(self, BadMachine, Machine, ["x", "y", "x"], self.rooms(rooms), self.doors(doors))
            refused(self, BadMachine, Machine, None, self.rooms(rooms), self.doors(doors))
            for room in [("aaa", []), ("A", []), ("b", [("x", ">", 3)]), ("b", None), None]:
                refused(self, BadMachine, Machine, WATCHES, [*self.rooms(rooms), room], self.doors(doors))
            for made in [None, Door("aaa", "zz", [], []), Door("aaa", "aaa", [("z", "<", 3)], []),
                         Door("aaa", "aaa", [], ["x", "x"]), Door("aaa", "aaa", [], [], "go")]:
                refused(self, BadMachine, Machine, WATCHES, self.rooms(rooms), [*self.doors(doors), made])
        refused(self, BadMachine, Machine, WATCHES, self.rooms(65), None)
        refused(self, BadMachine, Machine, WATCHES, [], self.doors(201))
        refused(self, BadMachine, Machine, ["x", "y", "a", "b", "c", "d", "e", "f"], self.rooms(65), [])

    def test_a_door_to_the_room_too_many_is_right(self):
        rooms = self.rooms(65)
        refused(self, TooMany, Machine, WATCHES, rooms, [Door(rooms[64][0], "aaa", [], [])])


class PlacedTest(unittest.TestCase):
    machine = Machine(["y", "x", "/"], [("a", [])], [])

    def test_in_the_guards_order(self):
        guard = [("x", "<", 3), ("/", ">=", FORTY), ("y", "=", 0), ("x", "<=", 9), ("x", ">", 1)]
        self.assertEqual(placed(self.machine, guard),
                         [(2, "<", 3), (3, ">=", FORTY), (1, "=", 0), (2, "<=", 9), (2, ">", 1)])
        self.assertEqual(placed(self.machine, []), [])

    def test_what_is_no_guard(self):
        for thing in ODD_THINGS + [("x", "<", 3), (("x", "<", 3),)]:
            if thing != []:
                refused(self, NoMark, placed, self.machine, thing)
        for look in BAD_LOOKS:
            refused(self, NoMark, placed, self.machine, [("x", "<", 3), look])
            self.assertEqual(placed(self.machine, [("x", "<", 3)]), [(2, "<", 3)])

    def test_a_machine_without_watches(self):
        machine = Machine([], [("a", [])], [])
        self.assertEqual(placed(machine, []), [])
        refused(self, NoMark, placed, machine, [("x", "<", 3)])

    def test_nothing_is_changed_and_lists_are_new(self):
        kept(self, [[("x", "<", 3), ("y", ">", 2)]], lambda guard: placed(self.machine, guard))


class InterfaceTest(unittest.TestCase):
    def test_arguments_stand_as_told(self):
        told = [(Door, ["start", "end", "guard", "noughts", "sign"]), (Machine, ["watches", "rooms", "doors"]),
                (Machine.stay, ["self", "room"]), (Machine.watch_number, ["self", "name"]),
                (placed, ["machine", "guard"])]
        for thing, names in told:
            self.assertEqual(list(inspect.signature(thing).parameters), names)
        self.assertEqual(inspect.signature(Door).parameters["sign"].default, "")


if __name__ == "__main__":
    unittest.main()
