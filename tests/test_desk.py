import inspect
import random
import unittest
from fractions import Fraction

from helpers import ODD_THINGS, pair, random_guard, random_machine, refused, told_by
from zonewalk.claims import Never, NoSooner, Within, lets_claim
from zonewalk.desk import Desk
from zonewalk.earliest import earliest, earliest_run
from zonewalk.errors import BadMachine, NoMark, NoRow, NoRun, NoText, TooMany, WalkError
from zonewalk.judging import judge
from zonewalk.machines import Machine
from zonewalk.runner import total, walked
from zonewalk.texts import read_machine, read_run, show_claim, show_fraction, show_machine, show_run
from zonewalk.together import together

CALLER = "watches x\nroom idle x<=5\nroom busy\ndoor idle busy x>=2 x:0 go!\ndoor busy idle x>3 x:0"
ANSWER = "watches y\nroom wait\nroom work y<=4\ndoor wait work y:0 go?\ndoor work wait y=4"
LINES = ["show", "walk ", "walk 2 0", "judge 200 never busy/work", "earliest 200 busy/work",
         "soonest 200 1/2 busy/work",
         "judge 9 within busy/work 5", "judge 9 nosooner busy/work 2", "earliest 9 idle/wait x>3"]


def desk_of(*texts):
    desk = Desk()
    for text in texts:
        desk.say("part\n" + text)
    return desk


class PartsTest(unittest.TestCase):
    def test_part_and_show(self):
        desk = Desk()
        self.assertEqual(desk.say("part\n" + CALLER), "ok")
        self.assertEqual(desk.say("show"), show_machine(together([read_machine(CALLER)])))
        self.assertEqual(desk.say("part\n" + ANSWER), "ok")
        whole = together([read_machine(CALLER), read_machine(ANSWER)])
        self.assertEqual(desk.say("show"), show_machine(whole))
        self.assertEqual(told_by(read_machine(desk.say("show"))), told_by(whole))

    def test_clear(self):
        desk = Desk()
        self.assertEqual(desk.say("clear"), "ok")
        desk.say("part\n" + CALLER)
        self.assertEqual(desk.say("clear"), "ok")
        refused(self, NoRow, desk.say, "show")
        desk.say("part\n" + ANSWER)
        self.assertEqual(desk.say("show"), show_machine(together([read_machine(ANSWER)])))

    def test_desks_are_apart(self):
        one = desk_of(CALLER)
        refused(self, NoRow, Desk().say, "show")
        other = desk_of(ANSWER)
        self.assertNotEqual(one.say("show"), other.say("show"))

    def test_the_same_question_has_the_same_answer(self):
        desk = desk_of(CALLER, ANSWER)
        first = [desk.say(line) for line in LINES]
        self.assertEqual([desk.say(line) for line in LINES], first)
        self.assertEqual([desk_of(CALLER, ANSWER).say(line) for line in LINES], first)


class AnswerTest(unittest.TestCase):
    desk = desk_of(CALLER, ANSWER)
    whole = together([read_machine(CALLER), read_machine(ANSWER)])

    def test_walk(self):
        self.assertEqual(self.desk.say("walk "), "idle/wait 0 0")
        self.assertEqual(self.desk.say("walk 1/2 -"), "idle/wait 1/2 1/2")
        self.assertEqual(self.desk.say("walk 5/2 0; 1/3 -"), "busy/work 1/3 1/3")
        self.assertEqual(desk_of("watches\nroom a").say("walk 3 -"), "a")

    def test_a_walk_to_values_of_thousands_of_figures(self):
        # Neighbours of a power of ten, so that their sum has a bottom of nearly as many figures as all of them.
        steps = ["1/" + "9" * 58 + str(number) + " -" for number in range(10, 100)]
        told = desk_of("watches x\nroom a").say("walk " + "; ".join(steps))
        self.assertGreater(len(told), 8000)
        self.assertRegex(told, r"\Aa [1-9][0-9]*/[1-9][0-9]*\Z")

    def test_judge(self):
        self.assertEqual(self.desk.say("judge 200 never idle/work x>5"), "held " + str(
            len(judge(Never("idle/work", [("x", ">", 5)]), self.whole).paper)))
        told = self.desk.say("judge 200 never busy/work")
        self.assertEqual(told.split(" ")[0], "broken")
        self.assertEqual(walked(self.whole, read_run(told[7:]))[0], "busy/work")
        self.assertEqual(self.desk.say("judge 9 within busy/work 5").split(" ")[0], "held")
        self.assertEqual(self.desk.say("judge 9 within busy/work 4").split(" ")[0], "broken")
        self.assertEqual(self.desk.say("judge 9 nosooner busy/work 2").split(" ")[0], "held")
        self.assertEqual(self.desk.say("judge 9 nosooner busy/work 3").split(" ")[0], "broken")

    def test_earliest_and_soonest(self):
        self.assertEqual(self.desk.say("earliest 200 busy/work"), "at 2")
        self.assertEqual(self.desk.say("earliest 200 idle/wait x>3"), "behind 3")
        self.assertEqual(self.desk.say("earliest 200 idle/wait"), "at 0")
        self.assertEqual(self.desk.say("earliest 200 idle/wait x>5"), "never")
        self.assertEqual(self.desk.say("soonest 200 1/2 idle/wait x>5"), "never")
        self.assertEqual(total(read_run(self.desk.say("soonest 200 1/2 busy/work"))), (2, 1))
        for near in (Fraction(1, 10 ** 9), Fraction(7)):
            told = read_run(self.desk.say("soonest 200 " + show_fraction(pair(near)) + " idle/wait x>3"))
            self.assertTrue(3 < Fraction(*total(told)) < 3 + near)

    def test_random_parts(self):
        source = random.Random(1)
        answers = set()
        for turn in range(80):
            watches = [list("xy"), list("zu"), ["v"]]
            machines = [random_machine(source, watches[part][:source.randint(0, 2)], "ab", source.randint(1, 4), 3,
                                       ["", "", "go!", "go?"]) for part in range(1 + turn % 3)]
            whole = together(machines)
            desk = desk_of(*[show_machine(machine) for machine in machines])
            room = source.choice(whole.rooms())
            guard = random_guard(source, whole.watches())
            words = "".join(" " + watch + word + str(number) for watch, word, number in guard)
            self.assertEqual(desk.say("show"), show_machine(whole))
            for claim in (Never(room, guard), NoSooner(room, guard, 2), Within(room, 3)):
                told = self.answered(desk, "judge 50 " + show_claim(claim))
                answers.add(told.split(" ")[0])
                self.assertEqual(told, self.judged(claim, whole))
            told = self.answered(desk, "earliest 50 " + room + words)
            answers.add(told.split(" ")[0])
            self.assertEqual(told, self.earliest_of(whole, room, guard))
            told = self.answered(desk, "soonest 50 1/3 " + room + words)
            self.assertEqual(told, self.soonest_of(whole, room, guard))
        self.assertLessEqual({"held", "broken", "at", "behind", "never"}, answers)

    def answered(self, desk, line):
        try:
            return desk.say(line)
        except TooMany:
            return "too many"

    def judged(self, claim, whole):
        try:
            verdict = judge(claim, whole, 50)
        except TooMany:
            return "too many"
        if verdict.held():
            self.assertTrue(lets_claim(claim, whole, verdict.paper))
            return "held " + str(len(verdict.paper))
        return "broken " + show_run(verdict.run)

    def earliest_of(self, whole, room, guard):
        try:
            told = earliest(whole, room, guard, 50)
        except TooMany:
            return "too many"
        return "never" if told is None else ("at " if told[1] else "behind ") + str(told[0])

    def soonest_of(self, whole, room, guard):
        try:
            told = earliest_run(whole, room, guard, (1, 3), 50)
        except TooMany:
            return "too many"
        return "never" if told is None else show_run(told)


class RefusingTest(unittest.TestCase):
    def check(self, error, line, *texts):
        desk = desk_of(*(texts or (CALLER, ANSWER)))
        before = desk.say("show")
        refused(self, error, desk.say, line)
        self.assertEqual(desk.say("show"), before)
        desk.say("clear")
        self.assertEqual(desk.say("part\n" + CALLER), "ok")

    def test_what_is_no_text(self):
        for thing in ODD_THINGS:
            if not isinstance(thing, str):
                self.check(NoRow, thing)
                refused(self, NoRow, Desk().say, thing)

    def test_other_words_and_other_counts(self):
        for line in ("", " ", "\n", "shows", "Show", "show ", " show", "show x", "show\n", "clear ", "clear x",
                     "clear\n",
                     "part", "part ", "part x",
                     "part " + CALLER, "parts\n" + CALLER, " part\n" + CALLER, "part \n" + CALLER,
                     "walk", "walked 1 -", "walk\n", "judge", "judge ", "judge 5", "judge  never a", "judge 5\nnever a",
                     "judge never idle/wait", "earliest", "earliest ", "earliest 5", "earliest idle/wait", "soonest",
                     "soonest ", "soonest 5", "soonest 5 1/2", "soonest 1/2 5 idle/wait", "soonest idle/wait",
                     "never a",
                     "ok", "sooner 5 1/2 idle/wait", "show\nshow", "judge\t5 never a", "walk\t1 -"):
            self.check(NoRow, line)

    def test_most(self):
        for most in ("0", "201", "01", "001", "-1", "+1", "1.0", "x", "", "1000", "1/2", "9" * 60, "9" * 61, "2000"):
            for line in ("judge MOST never idle/wait", "earliest MOST idle/wait", "soonest MOST 1/2 idle/wait"):
                self.check(NoRow, line.replace("MOST", most))
        for most in ("1", "200"):
            for line in ("judge MOST never idle/wait", "earliest MOST a", "soonest MOST 1/2 a"):
                self.assertIn(desk_of("watches\nroom a").say(line.replace("MOST", most).replace("idle/wait", "a"))[:6],
                              ("broken", "at 0", "0 -"))

    def test_a_most_just_enough_and_one_too_few(self):
        desk = desk_of("watches\nroom a\nroom b\nroom c\ndoor a b\ndoor b c")
        for line, told in (("judge MOST never c", "broken 0 0; 0 1; 0 -"), ("earliest MOST a", "at 0"),
                           ("soonest MOST 1/2 a", "0 -")):
            for most in (1, 2):
                refused(self, TooMany, desk.say, line.replace("MOST", str(most)))
            self.assertEqual(desk.say(line.replace("MOST", "3")), told)

    def test_where_there_are_no_parts(self):
        for line in LINES + ["walk x", "judge 5 sometimes", "earliest 5 a x", "show x", "part", "earliest 5 zz"]:
            refused(self, NoRow, Desk().say, line)
            desk = desk_of(CALLER)
            desk.say("clear")
            refused(self, NoRow, desk.say, line)

    def test_texts_not_written_as_told(self):
        for line in ("part\n", "part\n\n" + CALLER, "part\n" + CALLER + "\n", "part\nroom a", "part\n" + "x", "walk x",
                     "walk 1", "walk  ", "walk 1 0 ", "walk 1 0\n", "walk 1 0;2 0", "walk 2/4 -", "judge 5 ",
                     "judge 5 never",
                     "judge 5  never a", "judge 5 sometimes a", "judge 5 within a", "judge 5 never idle/wait ",
                     "judge 5 never idle/wait x", "judge 5 never\nidle/wait", "earliest 5 idle/wait ",
                     "earliest 5 idle/wait x", "earliest 5 idle/wait x<", "earliest 5 idle/wait  x<5",
                     "earliest 5 idle/wait x<5\n", "soonest 5 0 idle/wait", "soonest 5 1/1 idle/wait",
                     "soonest 5 -1 idle/wait", "soonest 5  idle/wait", "soonest 5 x idle/wait",
                     "soonest 5 2/4 idle/wait",
                     "soonest 5 1/2 idle/wait ", "soonest 5 1/2 idle/wait x"):
            self.check(NoText, line)

    def test_what_is_refused_by_what_is_asked_for(self):
        for line in ("walk 6 -", "walk 1 0", "walk 1 99", "walk 2 0; 9 -"):
            self.check(NoRun, line)
        for line in ("judge 5 never zz", "judge 5 never ", "judge 5 never idle/wait z<5", "judge 5 never idle/wait <5",
                     "judge 5 within zz 3", "judge 5 within  3", "judge 5 nosooner idle/wait 3 /<5", "earliest 5 zz",
                     "earliest 5 ", "earliest 5 idle/wait z<5", "earliest 5  x<5", "soonest 5 1/2 zz", "soonest 5 1/2 ",
                     "earliest 5 idle/wait\n", "judge 5 never idle/wait\n", "soonest 5 1/2 idle/wait /<5"):
            self.check(NoMark, line)
        for line in ("judge 1 never busy/work", "earliest 1 busy/work", "soonest 1 1/2 busy/work"):
            self.check(TooMany, line)
        long = "watches /\nroom a\nroom b\ndoor a b"
        for line in ("judge 5 within a 3", "judge 5 nosooner a 3", "earliest 5 a", "soonest 5 1/2 a"):
            self.check(BadMachine, line, long)
        self.assertEqual(desk_of(long).say("judge 5 never a />9").split(" ")[0], "broken")

    def test_the_order_of_refusals(self):
        long = "watches /\nroom a\nroom b\ndoor a b"
        self.check(NoRow, "judge 0 sometimes", long)
        self.check(NoRow, "soonest 201 0 zz x", long)
        self.check(NoText, "judge 1 within a x", long)
        self.check(NoText, "earliest 1 zz x", long)
        self.check(NoText, "soonest 1 0 zz", long)
        self.check(BadMachine, "judge 1 within zz 3", long)
        self.check(BadMachine, "earliest 1 zz z<5", long)
        self.check(BadMachine, "soonest 1 1/2 zz", long)
        self.check(NoMark, "judge 1 never zz", long)
        self.check(NoMark, "judge 1 never b z<5", long)
        self.check(TooMany, "judge 1 never b", long)
        self.check(NoMark, "earliest 1 busy/work z<5")
        self.check(NoText, "walk 6 -; x")

    def test_parts_that_the_whole_refuses(self):
        many = "watches\n" + "\n".join("room " + "a" * (place + 1) for place in range(33))
        for error, text in ((BadMachine, CALLER), (BadMachine, "watches a b c d e f\nroom a"), (TooMany, many),
                            (BadMachine, "watches\nroom " + "a" * 60), (BadMachine, "watches\nroom A"),
                            (TooMany, "watches\nroom a" + "\ndoor a a" * 201),
                            (TooMany, "watches\nroom a" + "\ndoor a a" * 99),
                            (NoText, "watches\nroom a\nrow")):
            self.check(error, "part\n" + text)

    def test_six_parts_and_seven(self):
        desk = desk_of(*["watches\nroom a"] * 6)
        self.assertEqual(desk.say("walk "), "a/a/a/a/a/a")
        refused(self, BadMachine, desk.say, "part\nwatches\nroom a")
        self.assertEqual(desk.say("walk "), "a/a/a/a/a/a")
        # One that was refused counts for nothing later either.
        desk.say("clear")
        desk.say("part\nwatches\nroom b")
        self.assertEqual(desk.say("walk "), "b")

    def test_every_refusal_leaves_the_answers(self):
        desk = desk_of(CALLER, ANSWER)
        first = [desk.say(line) for line in LINES]
        for line in ("part\n" + CALLER, "part\nx", "show ", "walk 9 9", "judge 1 never busy/work", "earliest 5 zz",
                     None):
            with self.assertRaises(WalkError):
                desk.say(line)
            self.assertEqual([desk.say(line) for line in LINES], first)


class InterfaceTest(unittest.TestCase):
    def test_arguments_stand_as_told(self):
        self.assertEqual(list(inspect.signature(Desk).parameters), [])
        self.assertEqual(list(inspect.signature(Desk.say).parameters), ["self", "line"])
        self.assertIsInstance(desk_of(show_machine(Machine([], [("a", [])], []))).say("show"), str)


if __name__ == "__main__":
    unittest.main()
