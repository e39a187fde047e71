"""[51]: prices without inner unknowns, and what tuples follow from, for demands of any form."""

import random
import unittest
from fractions import Fraction
from math import gcd

from cellbills.demands import Demands, Question, asks_for, demands_of_tuples, inner_or_sums, let_row
from cellbills.faces import keeps, row_against, tuples_of, without_sums
from cellbills.projection import follows_from, is_kept_always, projected, without_followers
from tests.some_units import row_at, value_of


def some_demands(rng):
    """Return random demands over a few prices and inner unknowns."""
    prices, inner = rng.randrange(1, 4), rng.randrange(5)
    rows = []
    for _ in range(rng.randrange(1, 8)):
        numbers = rng.sample(range(prices + inner), rng.randrange(1, min(4, prices + inner) + 1))
        counts = sorted((number, rng.choice([-2, -1, -1, 1, 1, 2])) for number in numbers)
        rows.append((counts, rng.choice([0, 0, 1, -1, -3])))
    return Demands(rows, prices, prices + inner)


def some_row(rng, many):
    return [(rng.randrange(5), 1) if rng.random() < 0.7 else (rng.choice([1, 3, 5]), 2) for _ in range(many)]


def holds(demands, row):
    """Return whether prices are let, with a look at what bears it out."""
    inner, sums = inner_or_sums(demands, row)
    numbers = [Fraction(*own) for own in row + (inner or [])]
    if inner is not None:
        assert all(number >= 0 for number in numbers)
        assert all(sum(often * numbers[at] for at, often in counts) >= least for counts, least in demands.rows)
        return True
    total, least = [0] * demands.total, 0
    for (counts, own), often in zip(demands.rows, sums):
        least += own * Fraction(*often)
        for at, count in counts:
            total[at] += count * Fraction(*often)
    assert all(own <= 0 for own in total[demands.prices:])
    assert value_of(total[:demands.prices], row) < least
    return False


class ProjectionTest(unittest.TestCase):

    def test_random_demands(self):
        seen = {True: 0, False: 0}
        for seed in range(500):
            rng = random.Random(seed)
            demands = some_demands(rng)
            every = [([int(number) for number in numbers], least) for numbers, least in projected(demands)]
            few = tuples_of(demands)
            row = some_row(rng, demands.prices)
            for _ in range(8):
                let = holds(demands, row)
                self.assertEqual(keeps(every[:600], row), let)
                self.assertEqual(keeps(few, row), let)
                seen[let] += 1
                row = some_row(rng, demands.prices)
                if few and rng.random() < 0.7:
                    row = row_at(rng, few, row, rng.choice([0, 0, Fraction(1, 3), -1]))
            self.assertEqual(let_row(demands) is None, few == [([0] * demands.prices, 1)])
            if let_row(demands) is not None:
                self.assertTrue(holds(demands, let_row(demands)))
        self.assertGreater(min(seen.values()), 500)

    def test_rates_that_need_not_be_told_to_be_at_least_0(self):
        # Each of these has one inner unknown whose bound follows from others, or doesn't.
        for rows, wanted in (
                ([([(0, -1), (1, 1)], 0), ([(0, -1), (1, -1)], -4)], [([-2], -4)]),
                ([([(0, -1), (1, 1)], -3), ([(0, -1), (1, -1)], -4)], [([-1], -4), ([-2], -7)]),
                ([([(0, 1), (1, 1)], 1), ([(1, -1)], -1)], []),
                ([([(1, 1), (2, 1)], 0), ([(0, -1), (1, -1)], -1)], [([-1], -1)]),
                ([([(1, 1), (2, -1)], 0), ([(1, -1), (2, 1)], 0), ([(0, -1), (1, -1)], -2)], [([-1], -2)])):
            demands = Demands(rows, 1, max(at for counts, _ in rows for at, _ in counts) + 1)
            for number in range(0, 20):
                row = [(number, 3)] if number % 3 else [(number // 3, 1)]
                self.assertEqual(keeps(projected(demands), row), keeps(wanted, row))
                self.assertEqual(holds(demands, row), keeps(wanted, row))

    def test_one_tuple_follows_from_another(self):
        self.assertTrue(follows_from(([2, -2], 4), ([1, -1], 2)))
        self.assertTrue(follows_from(([3, -2], 4), ([1, -1], 2)))
        self.assertTrue(follows_from(([2, -2], 3), ([1, -1], 2)))
        self.assertFalse(follows_from(([2, -3], 4), ([1, -1], 2)))
        self.assertFalse(follows_from(([1, -2], 4), ([1, -1], 2)))
        self.assertFalse(follows_from(([2, -2], 5), ([1, -1], 2)))
        self.assertTrue(follows_from(([0, 5], -1), ([7, -9], 100)))
        self.assertFalse(follows_from(([0, 5], 1), ([7, -9], 0)))
        for seed in range(2000):
            rng = random.Random(seed)
            one, other = (([rng.randrange(-2, 4) for _ in range(3)], rng.randrange(-2, 4)) for _ in range(2))
            if rng.random() < 0.5:
                times = rng.randrange(1, 4)
                one = ([number * times + rng.choice([0, 0, 1, -1]) for number in other[0]],
                       other[1] * times - rng.choice([0, 0, 1]))
            self.assertEqual(follows_from(one, other), asks_for(demands_of_tuples([other], 3), *one))
            self.assertEqual(is_kept_always(one), asks_for(demands_of_tuples([], 3), *one))

    def test_tuples_left_out(self):
        for seed in range(150):
            rng = random.Random(seed)
            tuples = [([rng.randrange(-2, 4) for _ in range(3)], rng.randrange(-2, 3)) for _ in range(rng.randrange(8))]
            few = without_followers(tuples)
            self.assertTrue(all(told in tuples for told in few))
            fewer = without_sums(few, 3)
            self.assertTrue(all(told in few for told in fewer))
            told = demands_of_tuples(fewer, 3)
            for own in tuples:
                self.assertTrue(asks_for(told, *own) or let_row(told) is None)
            for at in range(len(fewer)):
                others = demands_of_tuples(fewer[:at] + fewer[at + 1:], 3)
                self.assertFalse(asks_for(others, *fewer[at]))
            for own in fewer:
                self.assertFalse(any(follows_from(own, other) for other in fewer if other != own))

    def test_more_tuples_than_a_face_may_have(self):
        # Sums of two, none of which follows from a single one: only together they ask for it.
        base = [([(0, 1), (1, -1)], 0), ([(1, 1), (2, -1)], 0), ([(0, -1), (2, 2)], 0)]
        pairs = [(one, other) for one in range(1, 40) for other in range(1, 40) if gcd(one, other) == 1][:610]
        sums = [([(0, one), (1, other - one), (2, -other)], 0) if one != other else ([(0, 1), (2, -1)], 0)
                for one, other in pairs]
        demands = Demands(sums + base, 3, 3)
        told = tuples_of(demands)
        self.assertLessEqual(len(told), 600)
        wanted = [([1, -1, 0], 0), ([0, 1, -1], 0), ([-1, 0, 2], 0)]
        self.assertEqual(sorted(told), sorted(wanted))

    def test_rows_against_tuples(self):
        seen = {True: 0, False: 0}
        for seed in range(400):
            rng = random.Random(seed)
            demands = some_demands(rng)
            let = let_row(demands)
            if let is None:
                continue
            for _ in range(4):
                numbers = [rng.randrange(-2, 4) for _ in range(demands.prices)]
                told = (numbers, rng.randrange(-9, 4))
                row = row_against(demands, let, told)
                self.assertEqual(row is None, asks_for(demands, *told))
                if row is not None:
                    self.assertTrue(holds(demands, row))
                    self.assertFalse(keeps([told], row))
                seen[row is None] += 1
        self.assertGreater(min(seen.values()), 100)

    def test_rows_far_out_and_near(self):
        free, near = Demands([], 2, 2), Demands([([(0, -1)], -5)], 1, 1)
        row = row_against(free, [(0, 1), (0, 1)], ([1, -1], -10))
        self.assertLess(value_of([1, -1], row), -10)
        row = row_against(free, [(100, 1), (0, 1)], ([1, -1], -10))
        self.assertLess(value_of([1, -1], row), -10)
        row = row_against(near, [(0, 1)], ([-1], -2))
        self.assertTrue(2 < Fraction(*row[0]) <= 5)
        self.assertIsNone(row_against(near, [(0, 1)], ([-1], -5)))

    def test_papers(self):
        for seed in range(300):
            rng = random.Random(seed)
            demands = some_demands(rng)
            numbers = [rng.randrange(-1, 4) for _ in range(demands.prices)]
            least = rng.randrange(-3, 3)
            sums = Question(demands, numbers, least).sums()
            if sums is None:
                continue
            total, told = [0] * demands.total, 0
            for (counts, own), often in zip(demands.rows, sums):
                told += own * Fraction(*often)
                for at, count in counts:
                    total[at] += count * Fraction(*often)
            self.assertTrue(all(own <= wanted for own, wanted in zip(total, numbers + [0] * demands.total)))
            self.assertGreaterEqual(told, least)


if __name__ == "__main__":
    unittest.main()
