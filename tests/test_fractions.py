import inspect
import random
import unittest
from fractions import Fraction

from zonewalk import errors
from zonewalk.fractions import fraction, half, is_fraction, is_whole, minus, plus, under

SIXTY = 10 ** 60 - 1
# Two neighbours have no divisor in common, so this is in lowest terms.
LONG = (SIXTY, SIXTY - 1)
SMALL = [(top, bottom) for bottom in range(1, 8) for top in range(-12, 13)
         if Fraction(top, bottom).denominator == bottom]
NO_WHOLES = [True, False, None, "", "1", "1/2", [], [1], (), (1,), (1, 2), {}, 1.0, 0.5, b"1", object(), int]
NO_FRACTIONS = [
    (), (1,), (0,), (1, 2, 3), (1, 1, 1),
    (1, 0), (0, 0), (1, -1), (0, -1), (-1, -2), (3, -2),
    (2, 4), (0, 2), (-3, 3), (6, 9), (-6, 9), (SIXTY, 3),
    (True, 1), (False, 1), (1, True), (0, True), (None, 1), (1, None), ("1", 1), (1, "2"), ("1", "2"),
    ([1], 2), (1, [2]), ((1, 2), 1), (1, (1, 2)), (1.0, 2), (1, 2.0),
    [1, 2], [0, 1], 0, 1, -5, "12", "1/2", {1: 2, 3: 4}, {1, 2}, None, True, False, 0.5, object(), tuple,
    Fraction(1, 2),
]


def pair(value):
    return (value.numerator, value.denominator)


def long_pairs(seed, many):
    source = random.Random(seed)
    tops = [source.randrange(-SIXTY, SIXTY + 1) for number in range(2 * many)]
    bottoms = [source.randrange(1, 10 ** source.randrange(1, 61)) for number in range(2 * many)]
    values = [pair(Fraction(top, bottom)) for top, bottom in zip(tops, bottoms)]
    return list(zip(values[:many], values[many:]))


def all_pairs():
    pairs = [(one, other) for one in SMALL for other in SMALL]
    edges = [LONG, (-LONG[0], LONG[1]), (LONG[1], LONG[0]), (1, SIXTY), (-1, SIXTY), (SIXTY, 1), (-SIXTY, 1), (0, 1)]
    return pairs + [(one, other) for one in edges for other in edges] + long_pairs(4, 200)


class WholeTest(unittest.TestCase):
    def test_ints_are_whole(self):
        for number in (0, 1, -1, 2, 255, -1000, SIXTY, -SIXTY, 10 ** 5000):
            self.assertIs(is_whole(number), True)

    def test_truths_and_other_things_are_not(self):
        for thing in NO_WHOLES:
            with self.subTest(thing=thing):
                self.assertIs(is_whole(thing), False)


class IsFractionTest(unittest.TestCase):
    def test_lowest_terms_with_a_bottom_from_one_on(self):
        for thing in SMALL + [(0, 1), (1, 1), (-1, 1), (1, 2), LONG, (-SIXTY, 10 ** 59), (1, SIXTY)]:
            with self.subTest(thing=thing):
                self.assertIs(is_fraction(thing), True)

    def test_anything_else_is_none(self):
        for thing in NO_FRACTIONS:
            with self.subTest(thing=thing):
                self.assertIs(is_fraction(thing), False)

    def test_every_small_tuple(self):
        for top in range(-12, 13):
            for bottom in range(-12, 13):
                lowest = bottom >= 1 and pair(Fraction(top, bottom)) == (top, bottom)
                self.assertIs(is_fraction((top, bottom)), lowest)


class MakingTest(unittest.TestCase):
    def check_made(self, top, bottom):
        made = fraction(top, bottom)
        self.assertIs(type(made), tuple)
        self.assertEqual([type(part) for part in made], [int, int])
        self.assertEqual(made, pair(Fraction(top, bottom)))
        self.assertTrue(is_fraction(made))

    def test_small_numbers(self):
        for top in range(-30, 31):
            for bottom in range(-30, 31):
                if bottom != 0:
                    self.check_made(top, bottom)

    def test_large_numbers(self):
        source = random.Random(9)
        for number in range(300):
            top = source.randrange(-SIXTY, SIXTY + 1)
            bottom = source.randrange(1, 10 ** source.randrange(1, 61)) * source.choice([1, -1])
            self.check_made(top, bottom)
        self.check_made(SIXTY, SIXTY)
        self.check_made(SIXTY, -SIXTY)
        self.check_made(10 ** 59, -(2 ** 190))

    def test_nought_is_nought_over_one(self):
        for bottom in (1, 2, -1, -7, 12, SIXTY, -SIXTY):
            self.assertEqual(fraction(0, bottom), (0, 1))

    def test_a_second_number_below_nought_turns_both_signs(self):
        self.assertEqual(fraction(1, -2), (-1, 2))
        self.assertEqual(fraction(-1, -2), (1, 2))
        self.assertEqual(fraction(5, -1), (-5, 1))

    def test_what_divides_both_is_taken_out(self):
        self.assertEqual(fraction(6, 4), (3, 2))
        self.assertEqual(fraction(-6, 4), (-3, 2))
        self.assertEqual(fraction(6, -9), (-2, 3))
        self.assertEqual(fraction(12, 4), (3, 1))

    def test_the_second_number_left_out_is_one(self):
        for top in (0, 1, -1, 12, SIXTY, -SIXTY):
            self.assertEqual(fraction(top), (top, 1))

    def test_the_arguments_have_their_names(self):
        self.assertEqual(fraction(top=3, bottom=6), (1, 2))


class RefusingTest(unittest.TestCase):
    def check_refused(self, *numbers):
        with self.subTest(numbers=numbers):
            with self.assertRaises(errors.NoNumber) as taken:
                fraction(*numbers)
            self.assertIs(type(taken.exception), errors.NoNumber)
            self.assertIsInstance(taken.exception, errors.WalkError)
            self.assertIsInstance(taken.exception, ValueError)

    def test_a_second_number_that_is_nought(self):
        for top in (0, 1, -1, SIXTY):
            self.check_refused(top, 0)

    def test_no_whole_number_in_either_place(self):
        for thing in NO_WHOLES:
            self.check_refused(thing)
            self.check_refused(thing, 1)
            self.check_refused(thing, 0)
            self.check_refused(1, thing)
            self.check_refused(0, thing)
            self.check_refused(thing, thing)


class ReckoningTest(unittest.TestCase):
    def check_same(self, told, asked):
        self.assertEqual(told, pair(asked))
        self.assertTrue(is_fraction(told))

    def test_sums_and_differences(self):
        for one, other in all_pairs():
            self.check_same(plus(one, other), Fraction(*one) + Fraction(*other))
            self.check_same(minus(one, other), Fraction(*one) - Fraction(*other))

    def test_halves(self):
        for one, other in all_pairs():
            self.check_same(half(one), Fraction(*one) / 2)

    def test_whether_one_is_less(self):
        for one, other in all_pairs():
            self.assertIs(under(one, other), Fraction(*one) < Fraction(*other))

    def test_worked_examples(self):
        self.assertEqual(plus((1, 2), (1, 3)), (5, 6))
        self.assertEqual(plus((1, 2), (1, 2)), (1, 1))
        self.assertEqual(minus((1, 2), (1, 3)), (1, 6))
        self.assertEqual(minus((1, 3), (1, 2)), (-1, 6))
        self.assertEqual(minus((3, 7), (3, 7)), (0, 1))
        self.assertEqual(half((2, 3)), (1, 3))
        self.assertEqual(half((-1, 2)), (-1, 4))
        self.assertEqual(half((0, 1)), (0, 1))

    def test_none_of_equal_fractions_is_less(self):
        for value in SMALL + [(0, 1), LONG, (-SIXTY, 1)]:
            self.assertIs(under(value, value), False)

    def test_near_neighbours_are_told_apart(self):
        self.assertIs(under((SIXTY - 1, SIXTY), (SIXTY, SIXTY + 1)), True)
        self.assertIs(under((SIXTY, SIXTY + 1), (SIXTY - 1, SIXTY)), False)


class StayingTest(unittest.TestCase):
    def test_nothing_handed_in_is_changed(self):
        for make in (lambda: [1, 2], lambda: [2, 4], lambda: [], lambda: {1: 2}, lambda: ([1], [2])):
            thing = make()
            is_whole(thing)
            is_fraction(thing)
            for numbers in ((thing, 1), (1, thing)):
                with self.assertRaises(errors.NoNumber):
                    fraction(*numbers)
            self.assertEqual(thing, make())

    def test_the_same_question_has_the_same_answer(self):
        def answers():
            one = (7, 6)
            other = (-3, 4)
            return [fraction(14, -12), fraction(3), plus(one, other), minus(one, other), half(one), under(one, other),
                    is_whole(3), is_whole(True), is_fraction(one), is_fraction((2, 4))]
        first = answers()
        with self.assertRaises(errors.NoNumber):
            fraction(1, 0)
        self.assertEqual(answers(), first)

    def test_arguments_stand_as_told(self):
        told = [(is_whole, ["thing"]), (is_fraction, ["thing"]), (fraction, ["top", "bottom"]),
                (plus, ["one", "other"]), (minus, ["one", "other"]), (half, ["one"]), (under, ["one", "other"])]
        for function, names in told:
            self.assertEqual(list(inspect.signature(function).parameters), names)


if __name__ == "__main__":
    unittest.main()
