import unittest

from zonewalk import errors

NAMES = ["NoNumber", "BadMachine", "TooMany", "NoRun", "NoMark", "NoRoad", "NoRoom", "NoText", "NoRow"]


class ErrorsTest(unittest.TestCase):
    def test_any_refusal_is_a_value_error(self):
        self.assertEqual(errors.WalkError.__bases__, (ValueError,))

    def test_each_stands_straight_under_walk_error(self):
        for name in NAMES:
            with self.subTest(name=name):
                self.assertEqual(getattr(errors, name).__bases__, (errors.WalkError,))

    def test_none_stands_under_another_one(self):
        classes = [getattr(errors, name) for name in NAMES]
        for one in classes:
            self.assertEqual([other for other in classes if issubclass(one, other)], [one])

    def test_each_can_be_raised_and_taken_as_a_value_error(self):
        for name in NAMES:
            with self.subTest(name=name), self.assertRaises(ValueError):
                raise getattr(errors, name)(0)

    def test_no_run_bears_its_step(self):
        for step in (0, 1, 17):
            self.assertEqual(errors.NoRun(step).step, step)

    def test_the_step_is_each_objects_own(self):
        first = errors.NoRun(1)
        second = errors.NoRun(2)
        self.assertEqual((first.step, second.step), (1, 2))


if __name__ == "__main__":
    unittest.main()
