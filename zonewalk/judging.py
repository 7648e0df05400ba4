"""The judge: a claim is held, with a paper that anybody may check, or broken, with a run."""

from zonewalk.roads import run_of
from zonewalk.search import searched, way_of


class Verdict:
    pass


class Held(Verdict):
    def __init__(self, paper):
        self.paper = [(room, [list(row) for row in zone]) for room, zone in paper]

    def held(self):
        return True


class Broken(Verdict):
    def __init__(self, run):
        self.run = list(run)

    def held(self):
        return False


def judge(claim, machine, most=200):
    asked = claim.asked_of(machine)
    goal = claim.goal_on(asked)
    found = searched(asked, goal, most, claim.free_watch())
    nodes = found[0]
    if found[1]:
        return Broken(run_to_last(asked, goal, nodes))
    return Held([(node[0], node[1]) for node in nodes])


def run_to_last(asked, goal, nodes):
    road = way_of(nodes, len(nodes) - 1)
    room = nodes[-1][0]
    runs = [run_of(asked, road, guard) for marked, guard in goal if marked == room]
    # The last node hits by one of the marks of its room, and the road is open for that one's guard.
    return [run for run in runs if run is not None][0]
