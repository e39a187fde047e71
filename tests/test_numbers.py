"""[6]: numbers and deeds."""

import unittest

from cellbills.errors import InvalidDeed, InvalidList, InvalidNumber
from cellbills.numbers import done, is_number, is_sign, led_in
from tests.plain_reading import deed
from tests.samples import ODD

LEAST, GREATEST = -2 ** 63, 2 ** 63 - 1
WITH_NUMBERS = ["plus", "minus", "times", "over", "rest", "less", "same"]
SIGNS = WITH_NUMBERS + ["both", "any", "not"]
SOME = [LEAST, LEAST + 1, -10, -7, -3, -2, -1, 0, 1, 2, 3, 7, 2 ** 32, GREATEST - 1, GREATEST]


class NumbersTest(unittest.TestCase):

    def test_is_number(self):
        for value in (LEAST, -1, 0, 1, GREATEST):
            self.assertIs(is_number(value), True)
        for value in (LEAST - 1, GREATEST + 1, True, False, None, "1", [1], (1,), 10 ** 29):
            self.assertIs(is_number(value), False)
        for value in ODD:
            self.assertIn(is_number(value), (True, False))

    def test_led_in(self):
        self.assertEqual([led_in(number) for number in SOME], SOME)
        self.assertEqual(led_in(GREATEST + 1), LEAST)
        self.assertEqual(led_in(LEAST - 1), GREATEST)
        self.assertEqual(led_in(2 ** 64), 0)
        self.assertEqual(led_in(-2 ** 64 - 5), -5)
        for number in (10 ** 29, -10 ** 29, 10 ** 60):
            self.assertTrue(is_number(led_in(number)))
            self.assertEqual((led_in(number) - number) % 2 ** 64, 0)

    def test_led_in_of_what_is_no_whole_number(self):
        for value in (True, False, None, "5", [5], (5,)):
            with self.assertRaises(InvalidNumber) as caught:
                led_in(value)
            self.assertIs(caught.exception.value, value)

    def test_is_sign(self):
        for sign in SIGNS:
            self.assertIs(is_sign(sign), True)
        for value in ODD + ["+", "Plus", "plus ", "or", "num"]:
            self.assertIs(is_sign(value), False)

    def test_deeds_with_numbers(self):
        for sign in WITH_NUMBERS:
            for one in SOME:
                for other in SOME:
                    told, wanted = done(sign, [one, other]), deed(sign, [one, other])
                    self.assertEqual((told, type(told)), (wanted, type(wanted)), (sign, one, other))

    def test_edges(self):
        self.assertEqual(done("plus", [GREATEST, 1]), LEAST)
        self.assertEqual(done("minus", [LEAST, 1]), GREATEST)
        self.assertEqual(done("times", [LEAST, -1]), LEAST)
        self.assertEqual(done("times", [2 ** 62, 4]), 0)
        self.assertEqual([done("over", [number, 2]) for number in (7, -7, -8, 0)], [3, -4, -4, 0])
        self.assertEqual([done("over", [7, number]) for number in (-2, 0, -7, 8, -8)], [-4, 0, -1, 0, -1])
        self.assertEqual(done("over", [LEAST, -1]), LEAST)
        self.assertEqual([done("rest", [7, number]) for number in (-2, 0, 7, 8, -8)], [-1, 7, 0, 7, -1])
        # What over tells before it is led in counts: the rest is 0.
        self.assertEqual(done("rest", [LEAST, -1]), 0)
        self.assertEqual(done("rest", [LEAST, 0]), LEAST)
        self.assertIs(done("same", [0, 0]), True)
        self.assertIs(done("less", [0, 0]), False)

    def test_deeds_with_flags(self):
        for one in (True, False):
            self.assertIs(done("not", [one]), not one)
            for other in (True, False):
                self.assertIs(done("both", [one, other]), one and other)
                self.assertIs(done("any", [one, other]), one or other)

    def test_wrong_signs(self):
        for sign in ODD + ["add", "PLUS", ["plus"], ("plus",)]:
            with self.assertRaises(InvalidDeed) as caught:
                done(sign, "nor a list")
            self.assertIs(caught.exception.value, sign)

    def test_wrong_arguments(self):
        for sign in WITH_NUMBERS:
            for arguments in ([], [1], [1, 2, 3], (1, 2), [1, True], [False, 1], [1, GREATEST + 1],
                              [LEAST - 1, 1], [1, None], [1, "2"], [[1], 2], None, {}, 5, "12"):
                with self.assertRaises(InvalidList) as caught:
                    done(sign, arguments)
                self.assertIs(caught.exception.value, arguments)
        for sign, many in (("both", 2), ("any", 2), ("not", 1)):
            for arguments in ([True] * (many + 1), [True] * (many - 1), (True,) * many, [1] * many,
                              [0] * many, [None] * many, [True] * (many - 1) + [0], "TF"):
                self.assertRaises(InvalidList, done, sign, arguments)

    def test_arguments_stay(self):
        arguments = [5, 3]
        done("minus", arguments)
        self.assertEqual(arguments, [5, 3])


if __name__ == "__main__":
    unittest.main()
