"""The desk: a list of machines that are put together, and lines that ask about the whole."""

from zonewalk.earliest import earliest, earliest_run
from zonewalk.errors import NoRow, NoText
from zonewalk.judging import judge
from zonewalk.runner import walked
from zonewalk.texts import (is_number_text, read_claim, read_fraction, read_looks, read_machine, read_run,
                            show_fraction, show_machine, show_run)
from zonewalk.together import together

PART = "part\n"


class Desk:
    def __init__(self):
        self.parts = []
        self.whole = None

    def say(self, line):
        if not isinstance(line, str):
            raise NoRow("a line is a text")
        if line.startswith(PART):
            return self.put(line[len(PART):])
        if line == "clear":
            self.parts = []
            self.whole = None
            return "ok"
        if self.whole is None:
            raise NoRow("there are no parts to ask about")
        return answer(self.whole, line)

    def put(self, text):
        parts = self.parts + [read_machine(text)]
        # Kept only once the whole is not refused.
        self.whole = together(parts)
        self.parts = parts
        return "ok"


def answer(whole, line):
    if line == "show":
        return show_machine(whole)
    words = line.partition(" ")
    if words[1] == "":
        raise NoRow("no such line")
    if words[0] == "walk":
        return answer_walk(whole, words[2])
    if words[0] == "judge":
        return answer_judge(whole, words[2])
    if words[0] == "earliest":
        return answer_earliest(whole, words[2])
    if words[0] == "soonest":
        return answer_soonest(whole, words[2])
    raise NoRow("no such line")


def read_most(text):
    if not is_number_text(text) or not 1 <= int(text) <= 200:
        raise NoRow("most is a number from 1 to 200")
    return int(text)


def read_near(text):
    near = read_fraction(text)
    if near[0] == 0:
        raise NoText("a nearness is above 0")
    return near


def answer_walk(whole, text):
    stand = walked(whole, read_run(text))
    return " ".join([stand[0]] + [show_fraction(value) for value in stand[1]])


def answer_judge(whole, text):
    words = text.partition(" ")
    most = read_most(words[0])
    if words[1] == "":
        raise NoRow("a claim stands behind the most")
    verdict = judge(read_claim(words[2]), whole, most)
    if verdict.held():
        return "held " + str(len(verdict.paper))
    return "broken " + show_run(verdict.run)


def answer_earliest(whole, text):
    words = text.split(" ")
    most = read_most(words[0])
    if len(words) < 2:
        raise NoRow("a room stands behind the most")
    told = earliest(whole, words[1], read_looks(words[2:]), most)
    if told is None:
        return "never"
    return ("at " if told[1] else "behind ") + str(told[0])


def answer_soonest(whole, text):
    words = text.split(" ")
    most = read_most(words[0])
    if len(words) < 3:
        raise NoRow("a nearness and a room stand behind the most")
    near = read_near(words[1])
    told = earliest_run(whole, words[2], read_looks(words[3:]), near, most)
    return "never" if told is None else show_run(told)
