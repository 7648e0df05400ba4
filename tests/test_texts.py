import inspect
import random
import unittest
from fractions import Fraction

from helpers import ODD_THINGS, SIXTY, kept, pair, random_guard, random_machine, refused, told_by
from zonewalk.claims import Never, NoSooner, Within
from zonewalk.errors import BadMachine, NoText, TooMany
from zonewalk.machines import Door, Machine
from zonewalk.texts import (read_claim, read_fraction, read_machine, read_run, show_claim, show_fraction, show_machine,
                            show_run)

NO_TEXTS = [thing for thing in ODD_THINGS if not isinstance(thing, str)]
NO_NUMBERS = ["", "00", "01", "-1", "+1", " 1", "1 ", "1.0", "1e3", "x", "1x", "0x1", "1_0", "\n", "1\n",
              "1" * 61, "-0",
              "--", "1,0"]
EXAMPLE = "watches x y\nroom idle x<=5\nroom busy\ndoor idle busy x>=2 y<4 x:0 go!"
BAD_LOOK_WORDS = ["x<", "x==5", "x=<5", "x5", "x", "", "x<-1", "x<05", "x<5.", "x< 5", "x<=", "x<>5", "x>=>5", "x=",
                  "x<" + "1" * 61, "x!5", "x:0", "x<=x", "x<5x", "5", "x=>5"]


def fields(claim):
    return (claim.__class__, claim.room, getattr(claim, "guard", None), getattr(claim, "number", None))


class FractionTest(unittest.TestCase):
    def test_written_and_read(self):
        for value, text in (((0, 1), "0"), ((1, 2), "1/2"), ((7, 1), "7"), ((10, 3), "10/3"), ((SIXTY, 1), "9" * 60),
                            ((1, SIXTY), "1/" + "9" * 60), ((SIXTY, SIXTY - 1), "9" * 60 + "/" + "9" * 59 + "8"),
                            ((5, 1), "5"), ((20, 1), "20")):
            self.assertEqual(show_fraction(value), text)
            self.assertEqual(read_fraction(text), value)

    def test_longer_numbers_than_python_writes_at_once(self):
        for figures in (61, 119, 120, 121, 4299, 4300, 4301, 9000):
            for text in ("1" + "0" * (figures - 1), "9" * figures, "120" * (figures // 3) + "7"):
                number = 0
                for sign in text:
                    number = 10 * number + int(sign)
                self.assertEqual(show_fraction((number, 1)), text)
                self.assertEqual(show_fraction((1, number)), "1/" + text)

    def test_every_small_one(self):
        for top in range(40):
            for bottom in range(1, 20):
                value = pair(Fraction(top, bottom))
                self.assertEqual(read_fraction(show_fraction(value)), value)

    def test_what_writes_none(self):
        for text in NO_NUMBERS:
            refused(self, NoText, read_fraction, text)
            refused(self, NoText, read_fraction, text + "/2")
            refused(self, NoText, read_fraction, "1/" + text)
        for text in ("2/4", "1/1", "1/0", "0/2", "0/1", "0/0", "3/3", "4/2", "1/2/3", "/", "/2", "1/", "1//2", "1 /2",
                     "1/ 2", "-1/2", "1/-2", "1/02", "01/2", "6/9", "1/" + "1" * 61):
            refused(self, NoText, read_fraction, text)
            self.assertEqual(read_fraction("1/2"), (1, 2))

    def test_what_is_no_text(self):
        for thing in NO_TEXTS:
            for read in (read_fraction, read_machine, read_run, read_claim):
                refused(self, NoText, read, thing)


class MachineTest(unittest.TestCase):
    def check_read(self, text, watches, rooms, doors):
        self.assertEqual(told_by(read_machine(text)), (watches, rooms, doors))

    def test_the_example_of_the_document(self):
        doors = [("idle", "busy", [("x", ">=", 2), ("y", "<", 4)], ["x"], "go!")]
        self.check_read(EXAMPLE, ["x", "y"], [("idle", [("x", "<=", 5)]), ("busy", [])], doors)
        self.assertEqual(show_machine(read_machine(EXAMPLE)), EXAMPLE)

    def test_watches_alone_and_rooms_without_looks(self):
        self.check_read("watches\nroom a", [], [("a", [])], [])
        self.assertEqual(show_machine(Machine([], [("a", [])], [])), "watches\nroom a")

    def test_each_word_of_a_look(self):
        text = "watches x /\nroom a\ndoor a a x<1 x<=2 x>3 x>=4 x=5 />6 /=" + "9" * 60
        guard = [("x", "<", 1), ("x", "<=", 2), ("x", ">", 3), ("x", ">=", 4), ("x", "=", 5), ("/", ">", 6),
                 ("/", "=", SIXTY)]
        self.check_read(text, ["x", "/"], [("a", [])], [("a", "a", guard, [], "")])
        self.assertEqual(show_machine(read_machine(text)), text)

    def test_doors_of_every_make(self):
        text = ("watches x y\nroom a\nroom b\ndoor a b\ndoor b a x:0 y:0\ndoor a a go?\ndoor a b x=1 y:0 stop!\n"
                "door b b x=1 x=1\ndoor b b y:0 go!")
        machine = read_machine(text)
        self.assertEqual(show_machine(machine), text)
        self.assertEqual([(door.sets(), door.sign) for door in machine.doors()],
                         [([], ""), (["x", "y"], ""), ([], "go?"), (["y"], "stop!"), ([], ""), (["y"], "go!")])

    def test_random_machines_are_read_to_the_same(self):
        source = random.Random(1)
        for turn in range(200):
            watches = (["x", "/", "abcdefgh", "z", "u", "v", "w"])[:turn % 8]
            machine = random_machine(source, watches, ["a", "b/c", "//", "d" * 60], source.randint(0, 9),
                                     source.choice([4, SIXTY]), ["", "go!", "go?", "abcdefgh!"])
            text = show_machine(machine)
            self.assertEqual(told_by(read_machine(text)), told_by(machine))
            self.assertEqual(show_machine(read_machine(text)), text)

    def test_rows_out_of_order(self):
        rows = EXAMPLE.split("\n")
        for order in ([1, 0, 2, 3], [0, 1, 3, 2], [1, 2, 3], [0, 3, 1, 2], [3, 0, 1, 2], [0, 0, 1, 2], [0, 1, 2, 3, 0],
                      [0, 1, 2, 3, 1], [1, 2, 3, 0]):
            refused(self, NoText, read_machine, "\n".join(rows[place] for place in order))

    def test_rows_that_begin_otherwise(self):
        for text in ("", "\n", "watch x\nroom a", "Watches\nroom a", " watches\nroom a", "watches\n",
                     "watches\nroom a\n",
                     "watches\n\nroom a", "watches\nroom a\n\n", "watches\nrooms a", "watches\nroom a\ndoors a a",
                     "watches\n room a", "watches\nroom", "watches\nroom a\ndoor", "watches\nroom a\ndoor a",
                     "watches\troom a", "watches\r\nroom a\nx", "room a", "watchesx\nroom a",
                     "watches\nroom a\n# door"):
            refused(self, NoText, read_machine, text)
            self.assertEqual(read_machine("watches\nroom a").rooms(), ["a"])

    def test_blanks(self):
        for text in ("watches x\nroom a  x<5", "watches x\nroom a x<5 ", "watches\nroom a ",
                     "watches\nroom a\ndoor a a ",
                     "watches x\nroom a\ndoor a a  x:0", "watches x\nroom a\ndoor a a x<5  go!"):
            refused(self, NoText, read_machine, text)
        # A word without signs stands where a name should: so it is written as told, but is no machine.
        for text in ("watches \nroom a", "watches  x\nroom a", "watches x \nroom a", "watches\nroom ",
                     "watches\nroom a\ndoor  a", "watches\nroom a\ndoor a ", "watches\nroom a\ndoor  "):
            refused(self, BadMachine, read_machine, text)
        refused(self, NoText, read_machine, "watches\nroom  ")

    def test_looks_that_are_not_written_so(self):
        for word in BAD_LOOK_WORDS:
            refused(self, NoText, read_machine, "watches x\nroom a " + word)
            if word != "x:0":
                refused(self, NoText, read_machine, "watches x\nroom a\ndoor a a " + word)
        refused(self, NoText, read_machine, "watches x\nroom a go!")

    def test_words_of_a_door_out_of_order(self):
        for words in ("x:0 x<5", "go! x:0", "go! x<5", "go! go!", "go! go?", "x<5 go! x:0", "x:0 x<5 go!", "go! ",
                      "x:0 go! x<5", "x<5 x:0 x<5"):
            refused(self, NoText, read_machine, "watches x\nroom a\ndoor a a " + words)

    def test_what_is_written_but_no_machine(self):
        for text in ("watches", "watches x", "watches x x\nroom a", "watches X\nroom a", "watches x<5\nroom a",
                     "watches a b c d e f g h\nroom a", "watches\nroom A", "watches\nroom a\nroom a",
                     "watches\nroom " + "a" * 61, "watches x\nroom a y<5", "watches x\nroom a x>5",
                     "watches x\nroom a x=5",
                     "watches x\nroom a <5", "watches\nroom a\ndoor a b", "watches\nroom a\ndoor b a",
                     "watches\ndoor a a",
                     "watches x\nroom a\ndoor a a y<5", "watches x\nroom a\ndoor a a y:0",
                     "watches x\nroom a\ndoor a a :0",
                     "watches x\nroom a\ndoor a a x:0 x:0", "watches x\nroom a\ndoor a a !",
                     "watches x\nroom a\ndoor a a ?",
                     "watches x\nroom a\ndoor a a <5", "watches x\nroom a\ndoor a a Go!",
                     "watches x\nroom a\ndoor a a x<5!",
                     "watches x\nroom a\ndoor a a x<5:0", "watches x\nroom a\ndoor a a go!!",
                     "watches x\nroom a\ndoor a a /<5"):
            refused(self, BadMachine, read_machine, text)
            self.assertEqual(read_machine(EXAMPLE).rooms(), ["idle", "busy"])

    def test_no_text_ahead_of_bad_machine(self):
        for text in ("watches x x\nroom a x<", "watches\nroom A\nrow", "watches\nroom a\nroom a\ndoor a"):
            refused(self, NoText, read_machine, text)

    def test_too_many(self):
        rooms = "\n".join("room " + "a" * (place % 60 + 1) + "/" * (place // 60) for place in range(65))
        doors = "\ndoor a a" * 201
        refused(self, TooMany, read_machine, "watches\n" + rooms)
        refused(self, TooMany, read_machine, "watches\nroom a" + doors)
        self.assertEqual(len(read_machine("watches\nroom a" + doors[:-len("\ndoor a a")]).doors()), 200)
        refused(self, BadMachine, read_machine, "watches X\nroom a" + doors)
        refused(self, NoText, read_machine, "watches\nroom a" + doors + "\n")


class RunTest(unittest.TestCase):
    def test_written_and_read(self):
        for run, text in (([((1, 2), 0), ((3, 1), None)], "1/2 0; 3 -"), ([], ""), ([((0, 1), None)], "0 -"),
                          ([((0, 1), 199)], "0 199"), ([((SIXTY, 1), SIXTY)], "9" * 60 + " " + "9" * 60),
                          ([((1, SIXTY), 10)] * 3, "; ".join(["1/" + "9" * 60 + " 10"] * 3))):
            self.assertEqual(show_run(run), text)
            self.assertEqual(read_run(text), run)

    def test_random_runs(self):
        source = random.Random(2)
        for turn in range(100):
            run = [(pair(Fraction(source.randint(0, 90), source.randint(1, 12))), source.choice([None, 0, 7, 12345]))
                   for step in range(turn % 9)]
            self.assertEqual(read_run(show_run(run)), run)

    def test_what_is_not_written_so(self):
        for text in ("1 0; ", "; 1 0", "1 0;", "1 0;2 0", "1 0 ; 2 0", "1 0;  2 0", "1 0; ; 2 0", "; ", ";", " ",
                     "1", "-", "1 0 0",
                     "1  0", " 1 0", "1 0 ", "1 --", "1 -1", "-1 0", "2/4 0", "1/1 0", "1 01", "1 +1", "- 0", "1 0\n",
                     "1 0\n2 0", "1\t0", "1 1/2", "1 " + "1" * 61, "1 0, 2 0", "x 0", "1 x", "1 None", "00 0"):
            refused(self, NoText, read_run, text)
            self.assertEqual(read_run("1 0"), [((1, 1), 0)])


class ClaimTest(unittest.TestCase):
    def test_written_and_read(self):
        looks = [("x", "<=", 5), ("/", ">", 0), ("y", "=", SIXTY)]
        words = "x<=5 />0 y=" + "9" * 60
        for claim, text in ((Never("a", []), "never a"), (Never("a/b", looks), "never a/b " + words),
                            (NoSooner("a", [], 0), "nosooner a 0"), (NoSooner("a", looks, 7), "nosooner a 7 " + words),
                            (Within("a", SIXTY), "within a " + "9" * 60), (Within("", 0), "within  0"),
                            (Never("", []), "never "), (Never("", looks), "never  " + words),
                            (NoSooner("", [], 1), "nosooner  1"), (Never("A!\n-", [("", "<", 1)]), "never A!\n- <1"),
                            (Never("never", [("5:0", "=", 1)]), "never never 5:0=1"),
                            (Within("x<5", 1), "within x<5 1")):
            self.assertEqual(show_claim(claim), text)
            self.assertEqual(fields(read_claim(text)), fields(claim))

    def test_random_claims(self):
        source = random.Random(3)
        for turn in range(100):
            guard = random_guard(source, ["x", "/", "Q", "a-b", ""], 4, source.choice([9, SIXTY]))
            room = source.choice(["", "a", "Not/a_room", "5"])
            for claim in (Never(room, guard), NoSooner(room, guard, source.randint(0, 99)), Within(room, turn)):
                self.assertEqual(fields(read_claim(show_claim(claim))), fields(claim))

    def test_too_few_and_too_many_words(self):
        for text in ("", "never", "nosooner", "nosooner a", "nosooner ", "within", "within a", "within ",
                     "within a 3 x<5",
                     "within a 3 ", "never a ", "never a  x<5", "nosooner a 3 ", "nosooner a x<5", "within a x<5",
                     "Never a",
                     " never a", "sometimes a", "never\na", "withina 3", "never\ta"):
            refused(self, NoText, read_claim, text)
            self.assertEqual(fields(read_claim("never a")), fields(Never("a", [])))

    def test_numbers_and_looks(self):
        for text in NO_NUMBERS + ["1/2", "x<5"]:
            refused(self, NoText, read_claim, "within a " + text)
            refused(self, NoText, read_claim, "nosooner a " + text)
            refused(self, NoText, read_claim, "nosooner a " + text + " x<5")
        for word in BAD_LOOK_WORDS:
            refused(self, NoText, read_claim, "never a " + word)
            refused(self, NoText, read_claim, "never a x<5 " + word)
            refused(self, NoText, read_claim, "nosooner a 3 " + word)

    def test_the_watch_is_all_ahead_of_the_first_sign(self):
        self.assertEqual(read_claim("never a <5").guard, [("", "<", 5)])
        self.assertEqual(read_claim("never a x!y<=5").guard, [("x!y", "<=", 5)])
        self.assertEqual(read_claim("never a 5=5").guard, [("5", "=", 5)])


class StayingTest(unittest.TestCase):
    def test_nothing_is_changed_and_lists_are_new(self):
        kept(self, ["1/2 0; 3 -"], read_run)
        kept(self, [""], read_run)
        kept(self, [[((1, 2), 0)]], show_run)
        guard = [("x", "<", 3)]
        claim = Never("a", guard)
        self.assertEqual(show_claim(claim), show_claim(claim))
        self.assertEqual(guard, [("x", "<", 3)])
        self.assertEqual(show_machine(read_machine(EXAMPLE)), show_machine(read_machine(EXAMPLE)))

    def test_a_machine_that_is_shown_stays(self):
        machine = Machine(["x"], [("a", [("x", "<", 3)])], [Door("a", "a", [("x", ">", 1)], ["x"], "go!")])
        before = told_by(machine)
        show_machine(machine)
        self.assertEqual(told_by(machine), before)

    def test_arguments_stand_as_told(self):
        told = [(show_fraction, ["value"]), (show_machine, ["machine"]), (show_run, ["run"]), (show_claim, ["claim"]),
                (read_fraction, ["text"]), (read_machine, ["text"]), (read_run, ["text"]), (read_claim, ["text"])]
        for function, names in told:
            self.assertEqual(list(inspect.signature(function).parameters), names)


if __name__ == "__main__":
    unittest.main()
