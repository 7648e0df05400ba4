import inspect
import unittest
from fractions import Fraction

from zonewalk.bounds import added, at_most, below, beyond, is_open, lets, narrower, number_of

LONG = 10 ** 60 - 1
NUMBERS = list(range(-9, 10)) + [LONG, -LONG, LONG - 1, 1 - LONG]
SMALL_BOUNDS = list(range(-13, 14))
VALUES = sorted({Fraction(top, bottom) for bottom in (1, 2, 3, 7) for top in range(-24, 25)})


def pair(value):
    return (value.numerator, value.denominator)


def as_told(bound, value):
    # The words of the document, not the program's way of reading a bound.
    if bound is None:
        return True
    for number in range(-20, 21):
        if bound == 2 * number + 1:
            return value <= number
        if bound == 2 * number:
            return value < number
    raise AssertionError("a bound that this test does not reach")


class BoundTest(unittest.TestCase):
    def test_the_examples_of_the_document(self):
        self.assertEqual(at_most(3), 7)
        self.assertEqual(below(3), 6)
        self.assertEqual(at_most(-1), -1)
        self.assertEqual((number_of(7), is_open(7)), (3, False))
        self.assertEqual((number_of(6), is_open(6)), (3, True))
        self.assertEqual((number_of(-1), is_open(-1)), (-1, False))

    def test_both_kinds_around_nought(self):
        self.assertEqual([at_most(number) for number in (-2, -1, 0, 1, 2)], [-3, -1, 1, 3, 5])
        self.assertEqual([below(number) for number in (-2, -1, 0, 1, 2)], [-4, -2, 0, 2, 4])

    def test_a_bound_tells_what_it_was_made_of(self):
        for number in NUMBERS:
            self.assertEqual(at_most(number), 2 * number + 1)
            self.assertEqual(below(number), 2 * number)
            self.assertEqual(number_of(at_most(number)), number)
            self.assertEqual(number_of(below(number)), number)
            self.assertIs(is_open(at_most(number)), False)
            self.assertIs(is_open(below(number)), True)


class AddedTest(unittest.TestCase):
    def test_at_most_where_both_are_so_else_below(self):
        for one in NUMBERS:
            for other in NUMBERS:
                self.assertEqual(added(at_most(one), at_most(other)), 2 * (one + other) + 1)
                self.assertEqual(added(at_most(one), below(other)), 2 * (one + other))
                self.assertEqual(added(below(one), at_most(other)), 2 * (one + other))
                self.assertEqual(added(below(one), below(other)), 2 * (one + other))

    def test_no_bound_where_one_is_none(self):
        for bound in [None, 0, 1, -1, *SMALL_BOUNDS]:
            self.assertIsNone(added(None, bound))
            self.assertIsNone(added(bound, None))


class NarrowerTest(unittest.TestCase):
    def test_the_lesser_of_two_numbers(self):
        for one in SMALL_BOUNDS + [2 * LONG, 2 * LONG + 1, -2 * LONG]:
            for other in SMALL_BOUNDS:
                self.assertEqual(narrower(one, other), one if one < other else other)
        self.assertEqual(narrower(at_most(3), below(3)), below(3))
        self.assertEqual(narrower(below(4), at_most(3)), at_most(3))

    def test_none_is_the_widest(self):
        for bound in SMALL_BOUNDS:
            self.assertEqual(narrower(None, bound), bound)
            self.assertEqual(narrower(bound, None), bound)
        self.assertIsNone(narrower(None, None))

    def test_it_lets_by_what_both_let_by(self):
        for one in [None, *SMALL_BOUNDS]:
            for other in [None, *SMALL_BOUNDS]:
                for value in VALUES[::5]:
                    both = as_told(one, value) and as_told(other, value)
                    self.assertIs(lets(narrower(one, other), pair(value)), both)


class LetsTest(unittest.TestCase):
    def test_as_the_bound_says(self):
        for bound in [None, *SMALL_BOUNDS]:
            for value in VALUES:
                self.assertIs(lets(bound, pair(value)), as_told(bound, value))

    def test_just_at_the_number(self):
        for number in NUMBERS:
            self.assertIs(lets(at_most(number), (number, 1)), True)
            self.assertIs(lets(below(number), (number, 1)), False)

    def test_just_beside_the_number(self):
        for number in NUMBERS:
            for bottom in (2, 3, LONG):
                above = pair(number + Fraction(1, bottom))
                beneath = pair(number - Fraction(1, bottom))
                self.assertIs(lets(at_most(number), above), False)
                self.assertIs(lets(below(number), above), False)
                self.assertIs(lets(at_most(number), beneath), True)
                self.assertIs(lets(below(number), beneath), True)

    def test_none_lets_all_by(self):
        for value in [(0, 1), (1, 2), (-1, 2), (LONG, 1), (-LONG, 1), (1, LONG)]:
            self.assertIs(lets(None, value), True)


class BeyondTest(unittest.TestCase):
    def test_the_words_of_the_document(self):
        for number in NUMBERS:
            self.assertEqual(beyond(at_most(number)), 2 * -number)
            self.assertEqual(beyond(below(number)), 2 * -number + 1)

    def test_lets_minus_a_fraction_by_just_where_the_fraction_is_not(self):
        for bound in SMALL_BOUNDS:
            for value in VALUES:
                self.assertIs(lets(beyond(bound), pair(-value)), not as_told(bound, value))

    def test_twice_beyond_is_the_bound_itself(self):
        for number in NUMBERS:
            for bound in (at_most(number), below(number)):
                self.assertEqual(beyond(beyond(bound)), bound)


class StayingTest(unittest.TestCase):
    def test_the_same_question_has_the_same_answer(self):
        def answers():
            return [at_most(3), below(-3), number_of(-7), is_open(-7), added(5, -4), added(None, 3), narrower(5, -4),
                    narrower(None, 2), lets(5, (5, 2)), lets(4, (2, 1)), lets(None, (9, 1)), beyond(5), beyond(-4)]
        first = answers()
        self.assertEqual(answers(), first)

    def test_arguments_stand_as_told(self):
        told = [(at_most, ["number"]), (below, ["number"]), (number_of, ["bound"]), (is_open, ["bound"]),
                (added, ["one", "other"]), (narrower, ["one", "other"]), (lets, ["bound", "value"]),
                (beyond, ["bound"])]
        for function, names in told:
            self.assertEqual(list(inspect.signature(function).parameters), names)

    def test_bounds_are_ints(self):
        for bound in (at_most(0), below(0), added(1, 0), narrower(1, 0), beyond(0), beyond(1), number_of(1)):
            self.assertIs(type(bound), int)


if __name__ == "__main__":
    unittest.main()
