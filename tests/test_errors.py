import unittest

from leavehall import errors
from leavehall.halls import look_at_hall

REFUSALS = ("NoHall", "NoName", "Twice", "TooMany", "NoPassage", "NoWidth", "NoLine")


class ErrorsTest(unittest.TestCase):
    def test_hall_error_stands_straight_under_value_error(self):
        self.assertEqual(errors.HallError.__bases__, (ValueError,))

    def test_each_refusal_stands_straight_under_hall_error(self):
        for name in REFUSALS:
            with self.subTest(name):
                self.assertEqual(getattr(errors, name).__bases__, (errors.HallError,))

    def test_the_refusals_are_unlike(self):
        self.assertEqual(len({getattr(errors, name) for name in REFUSALS}), len(REFUSALS))

    def test_each_is_called_as_it_is_named(self):
        for name in REFUSALS + ("HallError",):
            self.assertEqual(getattr(errors, name).__name__, name)

    def test_a_refusal_can_be_taken_as_hall_error_and_as_value_error(self):
        for kind in (errors.NoHall, errors.HallError, ValueError):
            with self.assertRaises(kind):
                look_at_hall(2, [(0, 0, 1, 1)], 0, 1)

    def test_each_no_hall_has_its_own_place(self):
        places = []
        for passages in ([(0, 1, 1, 0)], [(0, 1, 1, 1), (0, 1, 0, 1)], [(0, 1, 1, 1), (1, 0, 1, 1), (2, 0, 1, 1)]):
            with self.assertRaises(errors.NoHall) as caught:
                look_at_hall(2, passages, 0, 1)
            places.append(caught.exception)
        with self.assertRaises(errors.NoHall) as caught:
            look_at_hall(2, [], 0, 0)
        places.append(caught.exception)
        self.assertEqual([error.place for error in places], [0, 1, 2, None])


if __name__ == "__main__":
    unittest.main()
