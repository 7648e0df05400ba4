"""Claims: what is said to hold on every run of a machine, and papers of them."""

from zonewalk.errors import NoMark
from zonewalk.longs import LONG, cut_off, with_long
from zonewalk.looks import is_number
from zonewalk.machines import own_copy, placed
from zonewalk.papers import lets_by


def check_mark(machine, room, guard):
    if room not in machine.rooms():
        raise NoMark("a claim is about a room of the machine")
    placed(machine, guard)


def check_number(number):
    if not is_number(number):
        raise NoMark("a claim's number is a whole one from 0 on")


class Claim:
    pass


class Never(Claim):
    def __init__(self, room, guard):
        self.room = room
        self.guard = own_copy(guard)

    def asked_of(self, machine):
        check_mark(machine, self.room, self.guard)
        return machine

    def goal_on(self, asked):
        return [(self.room, list(self.guard))]

    def free_watch(self):
        return None


class NoSooner(Claim):
    def __init__(self, room, guard, number):
        self.room = room
        self.guard = own_copy(guard)
        self.number = number

    def asked_of(self, machine):
        longer = with_long(machine)
        # The guard is of the machine in question: the long watch is not for it.
        check_mark(machine, self.room, self.guard)
        return longer

    def goal_on(self, asked):
        check_number(self.number)
        return [(self.room, self.guard + [(LONG, "<", self.number)])]

    def free_watch(self):
        return LONG


class Within(Claim):
    def __init__(self, room, number):
        self.room = room
        self.number = number

    def asked_of(self, machine):
        return cut_off(with_long(machine), self.room)

    def goal_on(self, asked):
        check_number(self.number)
        return [(room, [(LONG, ">", self.number)]) for room in asked.rooms() if room != self.room]

    def free_watch(self):
        return None


def lets_claim(claim, machine, paper):
    asked = claim.asked_of(machine)
    return lets_by(asked, claim.goal_on(asked), paper)
