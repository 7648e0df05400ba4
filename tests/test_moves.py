import inspect
import itertools
import random
import unittest
from fractions import Fraction

from helpers import (FORTY, WORDS, at_most, below, grid, kept, lies, meets_looks, narrow_zones, pair, pairs,
                     random_values, slow_folded, slowly_narrowed)
from zonewalk.moves import folded, freed, holds, met, put_back, waited
from zonewalk.zones import everywhere, narrowest, nought

TOP = 4


def random_looks(source, many, most=4, count=3):
    if many == 0:
        return []
    return [(source.randint(1, many), source.choice(WORDS), source.randint(0, most))
            for turn in range(source.randint(0, count))]


def small_zones(seed):
    for many in range(3):
        yield from narrow_zones(seed + many, many, 20, -2, 3)


class HoldsTest(unittest.TestCase):
    def test_each_word_beside_and_at_its_number(self):
        for number in (0, 1, 3, FORTY):
            for part in (Fraction(-1, 3), Fraction(0), Fraction(1, FORTY), Fraction(2)):
                value = number + part
                if value >= 0:
                    for word in WORDS:
                        asked = meets_looks([(1, word, number)], [value])
                        self.assertIs(holds([(1, word, number)], [pair(value)]), asked)

    def test_lists_of_looks(self):
        source = random.Random(1)
        seen = set()
        for turn in range(1000):
            values = random_values(source, source.randint(1, 5), 4, 2)
            looks = random_looks(source, len(values), 3)
            seen.add(meets_looks(looks, values))
            self.assertIs(holds(looks, pairs(values)), meets_looks(looks, values))
        self.assertEqual(seen, {True, False})

    def test_no_looks(self):
        self.assertIs(holds([], []), True)
        self.assertIs(holds([], [(1, 2)]), True)

    def test_two_looks_at_one_place(self):
        looks = [(2, ">", 1), (2, "<", 2)]
        for value, answer in ((Fraction(1), False), (Fraction(3, 2), True), (Fraction(2), False)):
            self.assertIs(holds(looks, pairs([9, value])), answer)


class MetTest(unittest.TestCase):
    def test_the_values_that_meet_the_looks(self):
        source = random.Random(2)
        empty = []
        for zone in small_zones(100):
            many = len(zone) - 1
            for turn in range(6):
                looks = random_looks(source, many)
                told = met(zone, looks)
                empty.append(told is None)
                for values in list(grid(many, many + 1, TOP + 5))[::2]:
                    inside = lies(zone, values) and meets_looks(looks, values)
                    self.assertEqual(told is not None and lies(told, values), inside)
        self.assertEqual(set(empty), {True, False})

    def test_it_is_the_narrowest_form(self):
        source = random.Random(3)
        for many in range(6):
            for zone in narrow_zones(110 + many, many, 30, -2, 6) + narrow_zones(many, many, 5, -9, FORTY):
                for turn in range(4):
                    looks = random_looks(source, many, 6, 5)
                    rows = [list(row) for row in zone]
                    for place, word, number in looks:
                        if word in ("<", "<=", "="):
                            bound = below(number) if word == "<" else at_most(number)
                            rows[place][0] = min(bound, bound if rows[place][0] is None else rows[place][0])
                        if word in (">", ">=", "="):
                            bound = below(-number) if word == ">" else at_most(-number)
                            rows[0][place] = min(bound, rows[0][place])
                    self.assertEqual(met(zone, looks), slowly_narrowed(rows))

    def test_no_looks_leave_it(self):
        for zone in small_zones(120):
            self.assertEqual(met(zone, []), zone)

    def test_two_looks_at_one_place(self):
        self.assertEqual(met(everywhere(1), [(1, ">=", 3), (1, "<=", 3)]), [[1, at_most(-3)], [at_most(3), 1]])
        self.assertEqual(met(everywhere(1), [(1, "=", 3)]), [[1, at_most(-3)], [at_most(3), 1]])
        self.assertIsNone(met(everywhere(1), [(1, ">=", 3), (1, "<", 3)]))
        self.assertIsNone(met(everywhere(1), [(1, ">", 3), (1, "<=", 3)]))
        self.assertIsNone(met(everywhere(1), [(1, "<", 0)]))
        self.assertEqual(met(everywhere(1), [(1, "<=", 0)]), nought(1))


class WaitedTest(unittest.TestCase):
    def test_the_values_behind_a_wait(self):
        for zone in small_zones(200):
            many = len(zone) - 1
            told = waited(zone)
            bottom = 2 * (many + 1)
            waits = [Fraction(number, bottom) for number in range(9 * bottom)]
            for values in list(grid(many, many + 1, TOP + 2))[::3]:
                behind = any(lies(zone, [value - wait for value in values]) for wait in waits)
                self.assertEqual(lies(told, values), behind)

    def test_it_is_narrow(self):
        for many in range(6):
            for zone in narrow_zones(210 + many, many, 20):
                self.assertEqual(slowly_narrowed(waited(zone)), waited(zone))

    def test_of_nought(self):
        self.assertEqual(waited([[1]]), [[1]])
        self.assertEqual(waited(nought(2)), [[1, 1, 1], [None, 1, 1], [None, 1, 1]])


class PutBackTest(unittest.TestCase):
    def test_the_values_with_noughts(self):
        for zone in small_zones(300):
            many = len(zone) - 1
            bottom = 3 * (many + 1)
            inside = [values for values in grid(many, bottom, 4) if lies(zone, values)]
            for count in range(many + 1):
                for places in itertools.combinations(range(1, many + 1), count):
                    told = put_back(zone, list(places))
                    self.assertEqual(slowly_narrowed(told), told)
                    for values in inside:
                        image = [0 if place in places else value for place, value in enumerate(values, start=1)]
                        self.assertTrue(lies(told, image))

    def test_no_other_values(self):
        # By one place alone: what was there lies somewhere among parts fine enough.
        for zone in narrow_zones(310, 2, 20, -2, 3):
            for place in (1, 2):
                told = put_back(zone, [place])
                for other in [Fraction(number, 3) for number in range(3 * TOP + 1)]:
                    known = [other, other]
                    before = [Fraction(number, 6) for number in range(6 * 20)]
                    came = any(lies(zone, [part, other] if place == 1 else [other, part]) for part in before)
                    known[place - 1] = Fraction(0)
                    self.assertEqual(lies(told, known), came)
                    known[place - 1] = Fraction(1, 3)
                    self.assertFalse(lies(told, known))

    def test_no_places_and_one_place_twice(self):
        for many in range(6):
            for zone in narrow_zones(320 + many, many, 15):
                self.assertEqual(put_back(zone, []), zone)
                for place in range(1, many + 1):
                    self.assertEqual(put_back(zone, [place, place]), put_back(zone, [place]))
                    self.assertEqual(slowly_narrowed(put_back(zone, [place])), put_back(zone, [place]))
                everyone = list(range(1, many + 1))
                self.assertEqual(put_back(zone, everyone), nought(many))
                self.assertEqual(put_back(zone, everyone + everyone[::-1]), nought(many))

    def test_others_stay_as_they_stood(self):
        zone = slowly_narrowed([[None, None, None], [at_most(5), None, at_most(1)], [None, below(2), None]])
        told = put_back(zone, [2])
        self.assertEqual(told, [[1, 1, 1], [at_most(5), 1, at_most(5)], [1, 1, 1]])


class FreedTest(unittest.TestCase):
    def test_the_values_that_have_grown(self):
        for zone in narrow_zones(400, 2, 25, -2, 3) + narrow_zones(401, 1, 15, -2, 3):
            many = len(zone) - 1
            for place in range(1, many + 1):
                told = freed(zone, place)
                self.assertEqual(slowly_narrowed(told), told)
                for values in list(grid(many, 3, TOP + 2))[::2]:
                    less = [Fraction(number, 6) for number in range(60)]
                    came = any(lies(zone, [value - part if at == place else value
                                           for at, value in enumerate(values, start=1)]) for part in less)
                    self.assertEqual(lies(told, values), came)

    def test_what_it_was_at_least_stays(self):
        zone = slowly_narrowed([[None, at_most(-2), below(-3)], [at_most(5), None, None],
                                [at_most(9), at_most(4), None]])
        told = freed(zone, 2)
        self.assertEqual(told[0], zone[0])
        self.assertEqual(told[1], zone[1])
        self.assertEqual(told[2], [None, None, 1])

    def test_it_is_narrow(self):
        for many in range(1, 6):
            for zone in narrow_zones(410 + many, many, 15):
                for place in range(1, many + 1):
                    self.assertEqual(slowly_narrowed(freed(zone, place)), freed(zone, place))


class FoldedTest(unittest.TestCase):
    def test_as_told(self):
        source = random.Random(5)
        for many in range(6):
            for zone in narrow_zones(500 + many, many, 40, -5, 8) + narrow_zones(many, many, 8, -FORTY // 5, FORTY):
                for turn in range(6):
                    mosts = [source.choice([None, 0, 1, 2, 3, 5, FORTY // 2]) for place in range(many)]
                    told = folded(zone, mosts)
                    self.assertEqual(told, slow_folded(zone, mosts))
                    self.assertEqual(narrowest(told), told)

    def test_all_values_of_the_zone_lie_in_it(self):
        source = random.Random(6)
        for zone in small_zones(510):
            many = len(zone) - 1
            told = folded(zone, [source.choice([None, 0, 1, 2]) for place in range(many)])
            for values in list(grid(many, many + 1, 7))[::2]:
                if lies(zone, values):
                    self.assertTrue(lies(told, values))

    def test_just_at_a_most_and_beside_it(self):
        def upper(bound):
            return [[1, 1], [bound, 1]]
        for number in (0, 1, 5, FORTY):
            self.assertEqual(folded(upper(at_most(number)), [number]), upper(at_most(number)))
            self.assertEqual(folded(upper(below(number + 1)), [number]), upper(None))
            self.assertEqual(folded(upper(at_most(number + 1)), [number]), upper(None))
            self.assertEqual(folded(upper(at_most(number + 1)), [number + 1]), upper(at_most(number + 1)))
            self.assertEqual(folded(upper(at_most(number + 1)), [None]), upper(at_most(number + 1)))

    def test_just_at_minus_a_most_and_beside_it(self):
        def lower(bound):
            return [[1, bound], [None, 1]]
        for number in (0, 1, 5, FORTY):
            self.assertEqual(folded(lower(at_most(-number)), [number]), lower(at_most(-number)))
            self.assertEqual(folded(lower(below(-number)), [number]), lower(below(-number)))
            self.assertEqual(folded(lower(at_most(-number - 1)), [number]), lower(below(-number)))
            self.assertEqual(folded(lower(below(-number - 1)), [number]), lower(below(-number)))
            self.assertEqual(folded(lower(at_most(-number - 1)), [None]), lower(at_most(-number - 1)))

    def test_differences_are_folded_too(self):
        zone = slowly_narrowed([[None, None, None], [None, None, at_most(-7)], [None, at_most(9), None]])
        self.assertEqual(folded(zone, [3, 5])[1][2], below(-5))
        self.assertEqual(folded(zone, [3, 7])[1][2], at_most(-7))
        self.assertEqual(folded(zone, [3, 8])[2][1], None)
        self.assertEqual(folded(zone, [3, 9])[2][1], at_most(9))
        self.assertEqual(folded(zone, [None, None]), zone)


class StayingTest(unittest.TestCase):
    def test_nothing_is_changed_and_lists_are_new(self):
        for many in range(1, 4):
            for zone in narrow_zones(600 + many, many, 8):
                kept(self, [[(1, "<", 3)], [(1, 2)] * many], holds)
                kept(self, [zone, []], met)
                kept(self, [zone, [(1, "<=", 3), (many, ">", 0)]], met)
                kept(self, [zone], waited)
                kept(self, [zone, []], put_back)
                kept(self, [zone, [many, 1]], put_back)
                kept(self, [zone, many], freed)
                kept(self, [zone, [1] * many], folded)
                kept(self, [zone, [None] * many], folded)
        kept(self, [[[1]], []], met)
        kept(self, [[[1]]], waited)
        kept(self, [[[1]], []], put_back)
        kept(self, [[[1]], []], folded)

    def test_arguments_stand_as_told(self):
        told = [(holds, ["looks", "values"]), (met, ["zone", "looks"]), (waited, ["zone"]),
                (put_back, ["zone", "places"]), (freed, ["zone", "place"]), (folded, ["zone", "mosts"])]
        for function, names in told:
            self.assertEqual(list(inspect.signature(function).parameters), names)


if __name__ == "__main__":
    unittest.main()
