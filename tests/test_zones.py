import inspect
import random
import unittest
from fractions import Fraction

from helpers import (FORTY, at_most, below, grid, kept, lies, narrow_zones, pair, pairs, random_values, random_zone,
                     slowly_narrowed, zone_round)
from zonewalk.zones import everywhere, lies_in, narrowest, nought, within


def open_zone(many):
    return [[None] * (many + 1) for row in range(many + 1)]


class LiesInTest(unittest.TestCase):
    def test_values_of_small_zones(self):
        source = random.Random(1)
        for many in (0, 1, 2):
            for turn in range(40):
                zone = random_zone(source, many)
                for values in list(grid(many, 2, 5))[:: many + 1]:
                    self.assertIs(lies_in(zone, pairs(values)), lies(zone, values))

    def test_values_of_many_watches_and_bottoms(self):
        source = random.Random(2)
        seen = []
        for turn in range(600):
            many = source.randint(1, 5)
            values = random_values(source, many, 9, 4)
            zone = zone_round(source, values)
            if source.random() < 0.5:
                zone[source.randint(0, many)][source.randint(0, many)] = source.randint(-4, 6)
            seen.append(lies(zone, values))
            self.assertIs(lies_in(zone, pairs(values)), seen[-1])
        self.assertEqual(set(seen), {True, False})

    def test_just_at_a_bound(self):
        for number in (0, 1, 5, FORTY):
            zone = open_zone(2)
            zone[1][2] = at_most(number)
            self.assertIs(lies_in(zone, [(number, 1), (0, 1)]), True)
            self.assertIs(lies_in(zone, pairs([number + Fraction(1, 9), 0])), False)
            zone[1][2] = below(number)
            self.assertIs(lies_in(zone, [(number, 1), (0, 1)]), False)
            self.assertIs(lies_in(zone, pairs([number + Fraction(1, 9), Fraction(1, 5)])), True)

    def test_the_diagonal_is_asked_too(self):
        for bound, answer in ((at_most(0), True), (below(0), False), (at_most(-1), False), (below(1), True),
                              (None, True), (at_most(3), True)):
            for place in (0, 1, 2):
                zone = open_zone(2)
                zone[place][place] = bound
                self.assertIs(lies_in(zone, [(1, 2), (3, 1)]), answer)

    def test_no_watches(self):
        self.assertIs(lies_in([[None]], []), True)
        self.assertIs(lies_in([[at_most(0)]], []), True)
        self.assertIs(lies_in([[below(0)]], []), False)


class NarrowestTest(unittest.TestCase):
    def test_against_a_slow_way(self):
        source = random.Random(3)
        empty = []
        for turn in range(1500):
            zone = random_zone(source, turn % 6, -2, 6)
            empty.append(slowly_narrowed(zone) is None)
            self.assertEqual(narrowest(zone), slowly_narrowed(zone))
        self.assertGreater(empty.count(True), 100)
        self.assertGreater(empty.count(False), 100)

    def test_the_same_values_lie_in_it(self):
        source = random.Random(4)
        for turn in range(120):
            many = turn % 3
            zone = random_zone(source, many)
            told = narrowest(zone)
            # Values of a zone that is not empty are found among parts of so many and one.
            inside = [values for values in grid(many, many + 1, 9) if lies(zone, values)]
            self.assertEqual(told is None, not inside)
            if told is not None:
                for values in grid(many, many + 1, 9):
                    self.assertEqual(lies(told, values), lies(zone, values))

    def test_values_of_up_to_seven_watches_stay_in_it(self):
        source = random.Random(5)
        for turn in range(300):
            values = random_values(source, source.randint(0, 7), 8, 6)
            zone = zone_round(source, values)
            told = narrowest(zone)
            self.assertTrue(lies(told, values))
            self.assertTrue(lies_in(told, pairs(values)))
            self.assertEqual(narrowest(told), told)

    def test_long_numbers(self):
        source = random.Random(6)
        for turn in range(200):
            zone = random_zone(source, source.randint(1, 5), -FORTY // 9, FORTY)
            self.assertEqual(narrowest(zone), slowly_narrowed(zone))

    def test_no_watches(self):
        for bound in (None, at_most(0), at_most(4), below(1)):
            self.assertEqual(narrowest([[bound]]), [[at_most(0)]])
        for bound in (below(0), at_most(-1), below(-5)):
            self.assertIsNone(narrowest([[bound]]))

    def test_rings_below_nought_are_empty(self):
        zone = open_zone(3)
        zone[1][2] = at_most(4)
        zone[2][3] = at_most(-7)
        zone[3][1] = at_most(2)
        self.assertIsNone(narrowest(zone))
        zone[3][1] = at_most(3)
        self.assertIsNotNone(narrowest(zone))

    def test_rings_of_just_nought_are_empty_with_one_below(self):
        for spoiled in (None, (1, 2), (2, 3), (3, 1)):
            zone = open_zone(3)
            zone[1][2] = at_most(FORTY)
            zone[2][3] = at_most(-7)
            zone[3][1] = at_most(7 - FORTY)
            if spoiled is not None:
                zone[spoiled[0]][spoiled[1]] -= 1
            self.assertEqual(narrowest(zone) is None, spoiled is not None)

    def test_a_ring_through_nought(self):
        zone = open_zone(1)
        zone[1][0] = at_most(3)
        zone[0][1] = at_most(-3)
        self.assertEqual(narrowest(zone), [[1, at_most(-3)], [at_most(3), 1]])
        zone[1][0] = below(3)
        self.assertIsNone(narrowest(zone))

    def test_values_are_from_nought_on(self):
        zone = open_zone(1)
        zone[1][0] = below(0)
        self.assertIsNone(narrowest(zone))
        zone[1][0] = at_most(-1)
        self.assertIsNone(narrowest(zone))
        zone[1][0] = at_most(0)
        zone[0][1] = at_most(5)
        self.assertEqual(narrowest(zone), nought(1))

    def test_a_diagonal_below_at_most_nought_is_empty(self):
        for place in (0, 1, 2):
            for bound in (below(0), at_most(-1), below(-3)):
                zone = open_zone(2)
                zone[place][place] = bound
                self.assertIsNone(narrowest(zone))

    def test_a_wide_diagonal_is_made_at_most_nought(self):
        for bound in (None, at_most(0), below(1), at_most(9)):
            zone = open_zone(2)
            for place in (0, 1, 2):
                zone[place][place] = bound
            self.assertEqual(narrowest(zone), everywhere(2))

    def test_a_zone_of_some_two_hundred_watches(self):
        many = 120
        zone = open_zone(many)
        for place in range(1, many):
            zone[place][place + 1] = at_most(-1)
        zone[many][1] = at_most(2 * many)
        told = narrowest(zone)
        self.assertEqual(told[1][many], at_most(1 - many))
        self.assertEqual(told[0][many], at_most(1 - many))
        self.assertEqual(told[many][2], at_most(2 * many - 1))
        zone[many][1] = below(many - 1)
        self.assertIsNone(narrowest(zone))


class WholeZonesTest(unittest.TestCase):
    def test_everywhere_is_narrow_and_holds_all(self):
        for many in range(8):
            told = everywhere(many)
            self.assertEqual(told, slowly_narrowed(open_zone(many)))
            self.assertEqual(narrowest(told), told)
            values = [(place, place + 2) if place % 2 else (FORTY, 1) for place in range(many)]
            self.assertIs(lies_in(told, [pair(Fraction(*value)) for value in values]), True)
        self.assertEqual(everywhere(1), [[1, 1], [None, 1]])

    def test_nought_holds_noughts_alone(self):
        for many in range(8):
            told = nought(many)
            self.assertEqual(told, [[1] * (many + 1)] * (many + 1))
            self.assertEqual(narrowest(told), told)
            self.assertIs(lies_in(told, [(0, 1)] * many), True)
            for place in range(many):
                values = [(0, 1)] * many
                values[place] = (1, FORTY)
                self.assertIs(lies_in(told, values), False)


class WithinTest(unittest.TestCase):
    def test_by_the_values_of_small_zones(self):
        zones = narrow_zones(7, 2, 40, -2, 3)
        inside = [{values for values in grid(2, 3, 18) if lies(zone, values)} for zone in zones]
        seen = set()
        for one, points in zip(zones, inside):
            for other, more_points in zip(zones, inside):
                self.assertIs(within(one, other), points <= more_points)
                seen.add(points <= more_points)
        self.assertEqual(seen, {True, False})

    def test_a_zone_is_within_itself_and_everywhere(self):
        for many in range(6):
            for zone in narrow_zones(many, many, 20):
                self.assertIs(within(zone, zone), True)
                self.assertIs(within(zone, [list(row) for row in zone]), True)
                self.assertIs(within(zone, everywhere(many)), True)
                self.assertIs(within(everywhere(many), zone), zone == everywhere(many))

    def test_one_bound_wider_is_enough(self):
        zone = [[1, 1, 1], [at_most(5), 1, at_most(2)], [at_most(6), at_most(3), 1]]
        self.assertEqual(slowly_narrowed(zone), zone)
        for i, j, bound in ((1, 0, below(5)), (1, 2, below(2)), (2, 0, below(6)), (2, 1, at_most(2)), (0, 1, below(0))):
            less = [list(row) for row in zone]
            less[i][j] = bound
            less = slowly_narrowed(less)
            self.assertIs(within(less, zone), True)
            self.assertIs(within(zone, less), False)

    def test_none_is_wider_than_any_number(self):
        one = everywhere(1)
        other = [[1, 1], [at_most(FORTY), 1]]
        self.assertIs(within(one, other), False)
        self.assertIs(within(other, one), True)


class StayingTest(unittest.TestCase):
    def test_nothing_is_changed_and_lists_are_new(self):
        source = random.Random(8)
        for turn in range(100):
            zone = random_zone(source, turn % 4)
            kept(self, [zone], narrowest)
            values = pairs(random_values(source, turn % 4, 3, 4))
            kept(self, [zone, values], lies_in)
        for many in range(4):
            kept(self, [many], everywhere)
            kept(self, [many], nought)
            for zone in narrow_zones(many, many, 5):
                kept(self, [zone], narrowest)
                kept(self, [zone, everywhere(many)], within)

    def test_arguments_stand_as_told(self):
        told = [(narrowest, ["zone"]), (everywhere, ["many"]), (nought, ["many"]), (lies_in, ["zone", "values"]),
                (within, ["one", "other"])]
        for function, names in told:
            self.assertEqual(list(inspect.signature(function).parameters), names)


if __name__ == "__main__":
    unittest.main()
