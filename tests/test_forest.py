"""[46]: pictures in which each cell is come to in just one way."""

import random
import unittest

from cellbills.codegen import listing
from cellbills.forest import is_forest
from cellbills.machine import Machine
from tests.checks import Checks, spoilt
from tests.random_rows import guided_listing
from tests.samples import ODD, random_program, random_thing
from cellbills.values import size

NONE = [None] * 64


def picture(slots=(), numbers=(0, 0, 0), cells=()):
    return list(slots) + NONE[len(slots):], *numbers, list(cells)


def one(*contents, link=0):
    """Return a cell with some contents."""
    return "", tuple(contents), link


class ForestTest(Checks, unittest.TestCase):

    def right(self, *values):
        for value in values:
            self.is_told(True, is_forest, value)

    def wrong(self, *values):
        for value in values:
            with self.subTest(value=value):
                self.is_told(False, is_forest, value)

    def test_ways_to_cells(self):
        self.right(picture(), picture([5, True, ("bare", "nil"), None, -2 ** 63]),
                   picture([("cell", 1)], cells=[one()]), picture([("hollow", 1)], cells=[one()]),
                   picture(numbers=(1, 0, 0), cells=[one()]), picture(numbers=(0, 1, 0), cells=[one()]),
                   picture(numbers=(0, 0, 1), cells=[one()]), picture(numbers=(3, 2, 1), cells=[one()] * 3),
                   picture(numbers=(0, 0, 3), cells=[one(), one(link=1), one(("cell", 2))]),
                   picture([("cell", 2)], cells=[one(), one(5, ("cell", 1), ("cell", 4), ("cell", 3)), one(), one()]))

    def test_cells_that_are_come_to_twice_or_not_at_all(self):
        self.wrong(picture(cells=[one()]), picture([("cell", 1)], cells=[one(), one()]),
                   picture([("cell", 1), ("cell", 1)], cells=[one()]), picture([("cell", 1), ("hollow", 1)], cells=[one()]),
                   picture(numbers=(1, 1, 0), cells=[one()]), picture([("cell", 1)], (0, 0, 1), [one()]),
                   picture([("cell", 1), ("cell", 2)], cells=[one(("cell", 2)), one()]),
                   picture([("cell", 1)], cells=[one(("cell", 2), ("cell", 2)), one()]),
                   picture([("cell", 1)], cells=[one(("cell", 2), link=2), one()]),
                   picture([("cell", 1)], (0, 0, 2), [one(link=2), one()]))

    def test_contents_that_lead_to_no_cell(self):
        self.wrong(picture([("frame", 1)], cells=[one()]), picture([("bare", 1)], cells=[one()]), picture([("cell", 0)]),
                   picture([("hollow", 0)]), picture([("cell", 1)], cells=[one(("hollow", 2)), one()]),
                   picture([("cell", 1)], cells=[one(("frame", 2)), one()]), picture([("cell", 1)], cells=[one(("cell", 0))]),
                   picture([("cell", 1)]), picture(numbers=(1, 0, 0)), picture([("cell", 2)], cells=[one()]))

    def test_round_about(self):
        self.wrong(picture(cells=[one(("cell", 1))]), picture(cells=[one(link=1)]),
                   picture(cells=[one(("cell", 2)), one(("cell", 1))]), picture([("cell", 1)], cells=[one(("cell", 1))]),
                   picture([("cell", 1)], cells=[one(link=2), one(link=1)]),
                   picture([("cell", 1)], cells=[one(), one(("cell", 3)), one(link=2)]))

    def test_forms(self):
        full = picture([("cell", 1)], (0, 2, 3), [one(5), one(("bare", "f"), None, True, 2 ** 63 - 1), one()])
        self.right(full)
        slots, frame, handler, first, cells = full
        self.wrong(list(full), full[:4], full + (0,), (slots[:63], *full[1:]), (slots + [None], *full[1:]),
                   (tuple(slots), *full[1:]), (*full[:4], tuple(cells)), (*full[:4], cells + [None]), None, (), "picture")
        for odd in (True, False, -1, 4, None, "1", (1,), 10 ** 29):
            self.wrong((slots, odd, 2, 3, cells), (slots, 0, 2, 3, cells[:2] + [("", (), odd)]))
            if odd not in (False, None):
                self.wrong((slots, 0, odd, 3, cells), (slots, 0, 2, odd, cells))
        for content in (("cell", 0), ("cell", 4), ("cell", True), ("cell", "1"), ("hollow", 0), ("hollow", -1), ("cell",),
                        ("cell", 1, 1), ["cell", 1], ("frame", 1), ("bare", "Nil"), ("bare", 5), ("bare", "num"), ("bare",),
                        ("bare", None), 2 ** 63, -2 ** 63 - 1, "nil", (), [], {}, (None, 1)):
            self.wrong((slots[:1] + [content] + slots[2:], *full[1:]), (*full[:4], [one(content)] + cells[1:]))
        for cell in (("", (), 0, 0), ("", ()), ["", (), 0], ("", [], 0), ("", (1, 2, 3, 4, 5), 0), ("", (("hollow", 2),), 0),
                     None, (), ("", None, 0)):
            self.wrong((*full[:4], [cell] + cells[1:]))
        for mark in (None, "", "nil", 5, ("frame", "f", 3), [1], {}, "whatever it is"):
            self.right((*full[:4], [(mark, (5,), 0)] + cells[1:]))
        for odd in ODD:
            self.wrong(odd)
        for value in spoilt(full, random.Random(0)):
            self.assertIn(is_forest(value), (True, False))

    def test_at_each_moment_of_runs(self):
        for seed in range(60):
            rng = random.Random(seed)
            program = random_program(seed % 20)
            name, parameters = rng.choice(program[2])[:2]
            arguments = [random_thing(rng, program, kind) for _, kind in parameters]
            cells = sum(map(size, arguments)) + rng.randrange(20)
            for rows in (listing(program), guided_listing(rng, program, name, arguments, cells, 60)):
                machine = Machine(program, rows, name, arguments, cells)
                for _ in range(100):
                    told = machine.picture()
                    self.assertTrue(is_forest(told))
                    if cells:
                        # One number that leads elsewhere, or nowhere.
                        at = rng.randrange(cells)
                        mark, contents, link = told[4][at]
                        told[4][at] = (mark, contents, rng.choice([own for own in range(cells + 1) if own != link]))
                        self.assertFalse(is_forest(told))
                    if machine.step() is not None:
                        break


if __name__ == "__main__":
    unittest.main()
