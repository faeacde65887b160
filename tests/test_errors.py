import unittest

from gapscribe import errors
from gapscribe.errors import Caught, GapError, NoPlace, Parted

PLAIN = ["NoForm", "NoDeed", "NoName", "NoCall", "NoStep", "NoRow", "TooBig", "TooLong"]
MADE_OF = {name: () for name in PLAIN}
MADE_OF["NoPlace"] = ((0, 1),)
MADE_OF["Parted"] = ((0, 1),)
MADE_OF["Caught"] = ("x", (0, 1))


class ErrorsTest(unittest.TestCase):
    def test_gap_error_is_a_value_error(self):
        self.assertEqual(GapError.__bases__, (ValueError,))

    def test_each_class_stands_straight_under_gap_error(self):
        for name in MADE_OF:
            with self.subTest(name=name):
                self.assertEqual(getattr(errors, name).__bases__, (GapError,))
                self.assertEqual(getattr(errors, name).__name__, name)

    def test_each_is_none_of_the_others(self):
        for name in MADE_OF:
            made = getattr(errors, name)(*MADE_OF[name])
            self.assertIsInstance(made, GapError)
            self.assertIsInstance(made, ValueError)
            for other in MADE_OF:
                with self.subTest(name=name, other=other):
                    self.assertEqual(isinstance(made, getattr(errors, other)), name == other)

    def test_each_can_be_raised_and_taken_by_its_name(self):
        for name in MADE_OF:
            with self.subTest(name=name), self.assertRaises(getattr(errors, name)):
                raise getattr(errors, name)(*MADE_OF[name])

    def test_plain_ones_take_words(self):
        for name in PLAIN:
            with self.subTest(name=name):
                self.assertEqual(str(getattr(errors, name)("some words")), "some words")

    def test_place_of_no_place_and_parted(self):
        for kind in (NoPlace, Parted):
            for place in ((), (0,), (2, 0, 1), (-1,), (10 ** 5000,)):
                with self.subTest(kind=kind.__name__):
                    self.assertEqual(kind(place).place, place)

    def test_each_object_has_its_own_place(self):
        for kind in (NoPlace, Parted):
            one, other = kind((0,)), kind((1,))
            self.assertEqual((one.place, other.place), ((0,), (1,)))

    def test_name_and_place_of_caught(self):
        one, other = Caught("x", (0, 2)), Caught("y", ())
        self.assertEqual((one.name, one.place), ("x", (0, 2)))
        self.assertEqual((other.name, other.place), ("y", ()))

    def test_values_may_be_handed_by_name(self):
        self.assertEqual(NoPlace(place=(3,)).place, (3,))
        self.assertEqual(Parted(place=(3,)).place, (3,))
        made = Caught(place=(3,), name="z")
        self.assertEqual((made.name, made.place), ("z", (3,)))


if __name__ == "__main__":
    unittest.main()
