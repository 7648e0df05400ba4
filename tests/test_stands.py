import inspect
import random
import unittest
from fractions import Fraction

from helpers import FORTY, at_most, below, kept, lies, narrow_zones, pair, plain, slowly_narrowed
from zonewalk.fractions import is_fraction
from zonewalk.stands import filled, near_values, parting
from zonewalk.zones import everywhere, nought, within

NEARS = [Fraction(1, 10 ** 9), Fraction(7), Fraction(1, 2), Fraction(3, 7), Fraction(22, 7)]


def some_zones(seed):
    for many in range(6):
        yield from narrow_zones(seed + many, many, 25)
    for many in (1, 2, 3):
        yield from narrow_zones(seed + many, many, 8, -FORTY // 7, FORTY)


class FilledTest(unittest.TestCase):
    def check_values(self, zone, values):
        self.assertIs(type(values), list)
        self.assertEqual(len(values), len(zone) - 1)
        self.assertTrue(all(is_fraction(value) for value in values))
        self.assertTrue(lies(zone, plain(values)), (zone, values))

    def test_with_no_value_told(self):
        for zone in some_zones(10):
            self.check_values(zone, filled(zone, {}))

    def test_with_some_and_with_all_values_told(self):
        source = random.Random(11)
        for zone in some_zones(20):
            many = len(zone) - 1
            for turn in range(4):
                values = self.values_of(source, zone)
                places = source.sample(range(1, many + 1), source.randint(0, many))
                known = {place: values[place - 1] for place in places}
                told = filled(zone, known)
                self.check_values(zone, told)
                for place in places:
                    self.assertEqual(told[place - 1], known[place])
                everything = {place: values[place - 1] for place in range(1, many + 1)}
                self.assertEqual(filled(zone, everything), values)

    def values_of(self, source, zone):
        # Values that the program did not choose: one place after the other, somewhere between what is left.
        values = [Fraction(0)]
        for place in range(1, len(zone)):
            low = [(Fraction(value - zone[other][place] // 2), zone[other][place] % 2)
                   for other, value in enumerate(values) if zone[other][place] is not None]
            high = [(value + zone[place][other] // 2, zone[place][other] % 2)
                    for other, value in enumerate(values) if zone[place][other] is not None]
            least = max(low, key=lambda found: (found[0], -found[1]))
            most = min(high, key=lambda found: (found[0], found[1]), default=(least[0] + 5, 0))
            if least[1] and source.random() < 0.4:
                values.append(least[0])
            elif most[1] and source.random() < 0.4:
                values.append(most[0])
            elif least[0] == most[0]:
                values.append(least[0])
            else:
                part = source.randint(2, 6)
                values.append(least[0] + (most[0] - least[0]) * source.randint(1, part - 1) / part)
        self.assertTrue(lies(zone, values[1:]))
        return [pair(value) for value in values[1:]]

    def test_no_watches(self):
        self.assertEqual(filled([[1]], {}), [])

    def test_a_narrow_gap_between_two_told_values(self):
        zone = slowly_narrowed([[None, None, None, None], [None, None, below(0), None], [None, None, None, below(0)],
                                [None, None, None, None]])
        for gap in (Fraction(1, 10 ** 30), Fraction(1, 7)):
            low = Fraction(5, 3)
            told = plain(filled(zone, {1: pair(low), 3: pair(low + gap)}))
            self.assertTrue(low < told[1] < low + gap)


class PartingTest(unittest.TestCase):
    def test_of_random_zones(self):
        parted = []
        for many in range(6):
            zones = narrow_zones(30 + many, many, 25, -2, 3)
            for one in zones:
                for other in zones:
                    self.check_parting(one, other)
                    parted.append(parting(one, other) is None)
        self.assertEqual(set(parted), {True, False})

    def check_parting(self, one, other):
        values = parting(one, other)
        self.assertEqual(values is None, within(one, other))
        if values is not None:
            self.assertTrue(all(is_fraction(value) for value in values))
            self.assertTrue(lies(one, plain(values)))
            self.assertFalse(lies(other, plain(values)))

    def test_a_zone_within_itself(self):
        for zone in some_zones(40):
            self.assertIsNone(parting(zone, zone))
            self.assertIsNone(parting(zone, everywhere(len(zone) - 1)))

    def test_where_a_bound_of_the_first_is_none(self):
        for many in (1, 2, 3):
            self.check_parting(everywhere(many), nought(many))
            for zone in narrow_zones(50 + many, many, 20):
                self.check_parting(everywhere(many), zone)
        other = [[1, 1], [at_most(FORTY), 1]]
        self.assertGreater(Fraction(*parting(everywhere(1), other)[0]), FORTY)

    def test_zones_that_differ_by_an_end_alone(self):
        one = [[1, at_most(-3)], [at_most(5), 1]]
        self.assertEqual(parting(one, [[1, at_most(-3)], [below(5), 1]]), [(5, 1)])
        self.assertEqual(parting(one, [[1, below(-3)], [at_most(5), 1]]), [(3, 1)])
        self.assertIsNone(parting([[1, below(-3)], [below(5), 1]], one))


class NearTest(unittest.TestCase):
    def check_near(self, zone, i, j, near):
        values = near_values(zone, i, j, pair(near))
        self.assertTrue(all(is_fraction(value) for value in values))
        self.assertTrue(lies(zone, plain(values)))
        told = [Fraction(0), *plain(values)]
        far = told[i] - told[j]
        bound = zone[i][j]
        if bound is None:
            self.assertGreaterEqual(far, near)
        elif bound % 2 == 1:
            self.assertEqual(far, bound // 2)
        else:
            self.assertGreater(far + near, bound // 2)

    def test_every_two_places_of_random_zones(self):
        bounds = set()
        for zone in some_zones(60):
            for i in range(len(zone)):
                for j in range(len(zone)):
                    if i != j:
                        bounds.add(None if zone[i][j] is None else zone[i][j] % 2)
                        for near in NEARS:
                            self.check_near(zone, i, j, near)
        self.assertEqual(bounds, {None, 0, 1})

    def test_with_place_nought(self):
        zone = [[1, below(-2)], [below(4), 1]]
        for near in NEARS + [Fraction(1, FORTY)]:
            self.check_near(zone, 1, 0, near)
            self.check_near(zone, 0, 1, near)
            self.check_near(everywhere(1), 1, 0, near)
        closed = [[1, at_most(-2)], [at_most(4), 1]]
        self.assertEqual(near_values(closed, 1, 0, (7, 1)), [(4, 1)])
        self.assertEqual(near_values(closed, 0, 1, (7, 1)), [(2, 1)])


class StayingTest(unittest.TestCase):
    def test_nothing_is_changed_and_lists_are_new(self):
        for many in range(1, 4):
            for zone in narrow_zones(70 + many, many, 8):
                known = {1: filled(zone, {})[0]}
                kept(self, [zone, known], filled)
                kept(self, [zone, nought(many)], parting)
                kept(self, [zone, 0, many, (1, 3)], near_values)
                kept(self, [zone, many, 0, (1, 3)], near_values)

    def test_arguments_stand_as_told(self):
        told = [(filled, ["zone", "known"]), (parting, ["one", "other"]), (near_values, ["zone", "i", "j", "near"])]
        for function, names in told:
            self.assertEqual(list(inspect.signature(function).parameters), names)


if __name__ == "__main__":
    unittest.main()
