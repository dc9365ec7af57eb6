"""The errors: point 17, and lanternhouse/errors.py of the interface."""

import unittest

from lanternhouse import errors

WITH_ATTRIBUTES = ["InvalidHouse", "BadDeed", "InvalidText", "NotPossible", "Refused"]
WITHOUT_ATTRIBUTES = [
    "InvalidStanding", "UnknownPart", "UnlikeHands", "WrongTrades", "NoDoors", "NotEven", "NotOdd",
    "NotTree", "NotStrict", "NotSwift", "TooFewHands", "NoPair", "NoCrew", "NoMaster", "NotTogether",
    "NotThere", "BadSteps", "NotDead", "NotLive", "NotRooted",
]


def named(name):
    return getattr(errors, name)


class Errors(unittest.TestCase):

    def test_house_error_is_a_value_error(self):
        self.assertTrue(issubclass(errors.HouseError, ValueError))
        self.assertIsNot(errors.HouseError, ValueError)

    def test_each_error_is_a_house_error(self):
        for name in WITH_ATTRIBUTES + WITHOUT_ATTRIBUTES:
            self.assertTrue(issubclass(named(name), errors.HouseError), name)
            self.assertIsNot(named(name), errors.HouseError, name)
            self.assertEqual(named(name).__name__, name)

    def test_none_is_a_base_class_of_another_one(self):
        for one in WITH_ATTRIBUTES + WITHOUT_ATTRIBUTES:
            for other in WITH_ATTRIBUTES + WITHOUT_ATTRIBUTES:
                if one != other:
                    self.assertFalse(issubclass(named(one), named(other)), (one, other))

    def test_created_with_a_string_or_without_arguments(self):
        for name in WITHOUT_ATTRIBUTES:
            self.assertIsInstance(named(name)(), named(name))
            self.assertIn("some words", str(named(name)("some words")))

    def test_attribute_door_of_invalid_house(self):
        for door in (None, 0, 7):
            error = errors.InvalidHouse(door)
            self.assertEqual(error.door, door)
            self.assertIsInstance(str(error), str)

    def test_attribute_at_of_bad_deed(self):
        self.assertEqual(errors.BadDeed(3).at, 3)
        self.assertEqual(errors.BadDeed(0).at, 0)

    def test_attribute_line_of_invalid_text(self):
        self.assertEqual(errors.InvalidText(4).line, 4)
        self.assertEqual(errors.InvalidText(0).line, 0)

    def test_attributes_of_not_possible(self):
        error = errors.NotPossible(2, 5)
        self.assertEqual((error.hand, error.door), (2, 5))
        lesson = errors.NotPossible(1, None)
        self.assertEqual((lesson.hand, lesson.door), (1, None))

    def test_attribute_row_of_refused(self):
        self.assertEqual(errors.Refused("pass 0 1").row, "pass 0 1")
        self.assertEqual(errors.Refused("").row, "")

    def test_errors_can_be_raised_and_caught(self):
        with self.assertRaises(errors.HouseError):
            raise errors.InvalidHouse(None)
        with self.assertRaises(ValueError):
            raise errors.NotRooted("why")


if __name__ == "__main__":
    unittest.main()
