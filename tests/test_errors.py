"""The refusals stand straight under FindError and apart from one another."""

import unittest

from findcourt import errors
from findcourt.errors import FindError, NoBytes, NoDocument, NoField, NoLine
from findcourt.errors import NoMake, NoPattern, NoPiece, NoStamp, NoText

PLACED = [NoField, NoMake]
PLAIN = [NoBytes, NoDocument, NoStamp, NoPiece, NoPattern, NoLine, NoText]


def make_error(refusal):
    return refusal(3) if refusal in PLACED else refusal()


class Refusals(unittest.TestCase):
    def test_find_error_is_a_value_error(self):
        self.assertEqual(FindError.__bases__, (ValueError,))

    def test_there_are_nine_each_straight_under_find_error(self):
        found = [value for value in vars(errors).values()
                 if isinstance(value, type) and value is not FindError]
        self.assertEqual(sorted(found, key=repr), sorted(PLACED + PLAIN, key=repr))
        self.assertEqual(len(found), 9)
        for refusal in found:
            self.assertEqual(refusal.__bases__, (FindError,), refusal)

    def test_each_raised_is_itself_and_none_of_the_others(self):
        for refusal in PLACED + PLAIN:
            with self.assertRaises(refusal) as caught:
                raise make_error(refusal)
            self.assertIsInstance(caught.exception, FindError)
            self.assertIsInstance(caught.exception, ValueError)
            for other in PLACED + PLAIN:
                self.assertEqual(isinstance(caught.exception, other), other is refusal)

    def test_place_is_set_when_made(self):
        for refusal in PLACED:
            for place in (0, 1, 299, 10 ** 59):
                self.assertEqual(refusal(place).place, place)


if __name__ == "__main__":
    unittest.main()
