"""[5]: the errors."""

import unittest

from cellbills import errors
from cellbills.errors import BillError, NothingToRedo, NothingToUndo

FIELDED = [errors.InvalidNumber, errors.InvalidKind, errors.InvalidValue, errors.InvalidProgram,
           errors.InvalidName, errors.InvalidBill, errors.InvalidPaper, errors.InvalidRows,
           errors.InvalidText, errors.InvalidUnit, errors.InvalidList, errors.InvalidDeed,
           errors.InvalidFlag, errors.Unlike, errors.TooMany]


class ErrorsTest(unittest.TestCase):

    def test_bases(self):
        self.assertEqual(BillError.__bases__, (ValueError,))
        for kind in FIELDED + [NothingToUndo, NothingToRedo]:
            self.assertEqual(kind.__bases__, (BillError,))

    def test_field_is_the_argument_itself(self):
        for kind in FIELDED:
            for value in ([1], ("a", [2]), None, 0, "", {"a": 1}, BillError()):
                self.assertIs(kind(value).value, value)
                self.assertIs(kind(value=value).value, value)

    def test_field_is_none_if_nothing_is_given(self):
        for kind in FIELDED:
            self.assertIsNone(kind().value)

    def test_one_argument_at_most(self):
        for kind in FIELDED:
            self.assertRaises(TypeError, kind, 1, 2)

    def test_without_field(self):
        for kind in (BillError, NothingToUndo, NothingToRedo):
            self.assertFalse(hasattr(kind(), "value"))
            self.assertRaises(TypeError, kind, 1)

    def test_raised_and_caught(self):
        for kind in FIELDED + [BillError, NothingToUndo, NothingToRedo]:
            with self.assertRaises(ValueError):
                raise kind()

    def test_equal_to_nothing_but_themselves(self):
        for kind in FIELDED:
            one = kind(1)
            self.assertEqual(one, one)
            self.assertNotEqual(one, kind(1))


if __name__ == "__main__":
    unittest.main()
