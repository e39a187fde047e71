"""Sums of fractions, which bills and refusals are judged by."""

import random
import unittest
from fractions import Fraction

from cellbills.ratios import fraction, is_at_least, is_fraction, least_whole, scaled, sum_of


class RatiosTest(unittest.TestCase):

    def some(self, rng):
        own = Fraction(rng.randrange(-9, 10), rng.choice([1, 2, 3, 4, 6, 8, 9, 12, 10 ** 30 - 1]))
        return (own.numerator, own.denominator)

    def test_sums(self):
        rng = random.Random(8)
        self.assertEqual([sum_of([]), sum_of([(1, (1, 4)), (1, (1, 6))]), sum_of([(2, (1, 4)), (-3, (1, 6))])],
                         [(0, 1), (5, 12), (0, 1)])
        for _ in range(500):
            pairs = [(rng.randrange(-5, 6), self.some(rng)) for _ in range(rng.randrange(6))]
            wanted = sum((often * Fraction(*own) for often, own in pairs), Fraction(0))
            told = sum_of(pairs)
            self.assertTrue(is_fraction(told))
            self.assertEqual(Fraction(*told), wanted)
            for number in (-3, 0, 1, told[0] // told[1]):
                self.assertIs(is_at_least(told, number), wanted >= number)
            self.assertEqual(least_whole(told), -(-wanted // 1))

    def test_scaled(self):
        rng = random.Random(8)
        self.assertEqual(scaled([]), ([], 1))
        self.assertEqual(scaled([(1, 4), (5, 6), (2, 1)]), ([3, 10, 24], 12))
        for _ in range(200):
            amounts = [self.some(rng) for _ in range(rng.randrange(6))]
            told, scale = scaled(amounts)
            self.assertEqual([Fraction(own, scale) for own in told], [Fraction(*own) for own in amounts])

    def test_least_terms(self):
        self.assertEqual([fraction(6, 4), fraction(-6, 4), fraction(0, 9), fraction(5, 1)], [(3, 2), (-3, 2), (0, 1), (5, 1)])


if __name__ == "__main__":
    unittest.main()
