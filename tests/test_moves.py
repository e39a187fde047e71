"""[40]: shuffles and the rows of moves that do them."""

import itertools
import random
import unittest

from cellbills.errors import InvalidList, InvalidNumber
from cellbills.moves import fewest_moves, is_moves, moves, rings
from tests.checks import Checks, spoilt
from tests.plain_code import plain_moves
from tests.samples import ODD

NO_SHUFFLE = [None, (), {}, "", 5, True, ((0, 1),), [0, 1], [[0, 1]], [(0,)], [(0, 1, 2)], [(0, 100)], [(100, 0)],
              [(-1, 0)], [(0, -1)], [(True, 0)], [(0, False)], [("0", 1)], [(0, None)], [(0, 1), (0, 2)],
              [(0, 1), (0, 1)], [(3, 3), (3, 3)], [(10 ** 29, 0)], [((0,), 1)], [(number, 50) for number in range(41)]]


def does(shuffle, spare, row):
    held = {number: number for number in range(100)}
    for first, other in row:
        held[first] = held[other]
    wanted = dict(shuffle)
    return all(held[own] == wanted.get(own, own) for own in range(100) if own != spare)


class MovesTest(Checks, unittest.TestCase):

    def check(self, shuffle, spare, wanted, ring=()):
        self.assertEqual(self.told(moves, shuffle, spare), wanted)
        self.is_told(True, is_moves, shuffle, spare, wanted)
        self.assertTrue(does(shuffle, spare, wanted))
        self.assertEqual(self.told(rings, shuffle), [list(own) for own in ring])
        self.assertEqual(self.told(fewest_moves, shuffle), len(wanted))

    def test_without_moves(self):
        self.check([], 0, [])
        self.check([(3, 3), (0, 0)], 1, [])
        self.is_told(False, is_moves, [(3, 3)], 1, [(3, 4)])

    def test_chains_and_trees(self):
        self.check([(0, 1)], 9, [(0, 1)])
        self.check([(0, 1), (1, 2), (2, 3)], 9, [(0, 1), (1, 2), (2, 3)])
        self.check([(2, 1), (1, 0), (3, 2)], 9, [(3, 2), (2, 1), (1, 0)])
        # Behind the first move the others read what it filled.
        self.check([(0, 5), (1, 5), (5, 6)], 9, [(0, 5), (1, 0), (5, 6)])
        self.check([(0, 5), (1, 5), (2, 5)], 9, [(0, 5), (1, 0), (2, 1)])
        self.check([(0, 5), (1, 0), (2, 0), (5, 7)], 9, [(1, 0), (0, 5), (2, 1), (5, 7)])
        self.check([(0, 0), (1, 0)], 9, [(1, 0)])

    def test_rings(self):
        self.check([(0, 1), (1, 0)], 9, [(9, 0), (0, 1), (1, 9)], [(0, 1)])
        self.check([(2, 0), (1, 2), (0, 1)], 9, [(9, 2), (2, 0), (0, 1), (1, 9)], [(0, 1, 2)])
        self.check([(1, 0), (0, 1), (5, 4), (4, 5)], 7,
                   [(7, 1), (1, 0), (0, 7), (7, 5), (5, 4), (4, 7)], [(0, 1), (4, 5)])
        # Another register reads from the ring: then it breaks by itself.
        self.check([(0, 1), (1, 0), (2, 0)], 9, [(2, 0), (0, 1), (1, 2)])
        self.check([(0, 1), (1, 0), (2, 1), (3, 4), (4, 3)], 9,
                   [(2, 1), (1, 0), (0, 2), (9, 3), (3, 4), (4, 9)], [(3, 4)])
        self.check([(0, 1), (1, 2), (2, 0), (6, 6)], 99, [(99, 0), (0, 1), (1, 2), (2, 99)], [(0, 1, 2)])
        # A chain that leads into a ring reads from it.
        self.check([(4, 3), (3, 0), (0, 1), (1, 0)], 9, [(4, 3), (3, 0), (0, 1), (1, 3)])

    def test_rows_that_are_none(self):
        self.is_told(True, is_moves, [(0, 1)], 9, [(9, 1), (0, 9)])
        self.is_told(True, is_moves, [(0, 1)], 9, [(0, 1)] * 50)
        self.is_told(True, is_moves, [(0, 1)], 9, [(0, 1), (7, 7), (9, 3)])
        self.is_told(True, is_moves, [(0, 1)], 9, [(9, 4), (4, 5), (0, 1), (4, 9)])
        self.is_told(False, is_moves, [(0, 1)], 9, [(0, 1), (2, 0)])
        self.is_told(False, is_moves, [(0, 1)], 9, [(8, 1), (0, 8)])
        self.is_told(False, is_moves, [(0, 1)], 9, [])
        self.is_told(False, is_moves, [(0, 1)], 9, [(0, 2)])
        self.is_told(False, is_moves, [(0, 1), (1, 0)], 9, [(0, 1), (1, 0)])
        self.is_told(False, is_moves, [(0, 1), (1, 0)], 9, [(9, 0), (0, 1)])
        for odd in ODD + NO_SHUFFLE[:-8] + [[(0, 100)], [(-1, 1)], [(0, True)], [(False, 1)], ((0, 1),)]:
            self.is_told(odd == [], is_moves, [(0, 0)], 9, odd)
        for value in spoilt([(9, 1), (1, 0), (0, 9)], random.Random(0)):
            right = isinstance(value, list) and all(
                isinstance(pair, tuple) and len(pair) == 2 and all(type(own) is int and 0 <= own < 100 for own in pair)
                for pair in value)
            self.is_told(right and does([(0, 1), (1, 0)], 9, value), is_moves, [(0, 1), (1, 0)], 9, value)

    def test_against_another_way(self):
        for seed in range(300):
            rng = random.Random(seed)
            most = rng.choice([4, 8, 12, 90])
            firsts = rng.sample(range(most), rng.randrange(min(most, 40) + 1))
            if rng.random() < 0.4:
                shuffle = list(zip(firsts, rng.sample(firsts, len(firsts))))
            else:
                shuffle = [(first, rng.randrange(most)) for first in firsts]
            row = moves(shuffle, 99)
            self.assertEqual(row, plain_moves(shuffle, 99))
            self.assertTrue(does(shuffle, 99, row) and is_moves(shuffle, 99, row))
            self.assertEqual(len(row), fewest_moves(shuffle))
            wanted = dict(pair for pair in shuffle if pair[0] != pair[1])
            found = rings(shuffle)
            self.assertEqual(found, sorted(found))
            for ring in found:
                self.assertEqual([wanted[own] for own in ring], ring[1:] + ring[:1])
                self.assertTrue(min(ring) == ring[0] and len(ring) > 1)
                self.assertTrue(all(list(wanted.values()).count(own) == 1 for own in ring))

    def test_no_shorter_row(self):
        able = [(r, s) for r in (0, 1, 2, 9) for s in (0, 1, 2, 9) if r != s]
        for wanted in itertools.product(range(3), repeat=3):
            for firsts in ((0, 1, 2), (1, 0), (2,)):
                shuffle = [(first, wanted[first]) for first in firsts]
                least = fewest_moves(shuffle)
                for many in range(least):
                    for row in itertools.product(able, repeat=many):
                        self.assertFalse(does(shuffle, 9, row), (shuffle, row))

    def test_at_the_bounds(self):
        shuffle = [(number, (number + 1) % 40) for number in range(40)]
        self.assertEqual(len(moves(shuffle, 40)), 41)
        self.assertEqual(rings(shuffle), [list(range(40))])
        shuffle = [(number, number + 1 - 2 * (number % 2)) for number in range(60, 100)]
        self.assertEqual(len(moves(shuffle, 0)), 60)
        self.assertEqual(len(rings(shuffle)), 20)

    def test_errors(self):
        for odd in NO_SHUFFLE + [odd for odd in ODD if odd != []]:
            for function in (moves, is_moves):
                rest = [None] * (function is is_moves)
                self.refused(function, InvalidList, 0, odd, None, *rest)
            self.refused(rings, InvalidList, 0, odd)
            self.refused(fewest_moves, InvalidList, 0, odd)
        for spare in (0, 1, 5, -1, 100, True, False, None, "9", 10 ** 29, (9,), [9]):
            self.refused(moves, InvalidNumber, 1, [(0, 1), (5, 5)], spare)
            self.refused(is_moves, InvalidNumber, 1, [(0, 1), (5, 5)], spare, None)


if __name__ == "__main__":
    unittest.main()
