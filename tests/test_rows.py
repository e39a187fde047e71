"""[42]: listings, row by row."""

import random
import unittest

from cellbills.codegen import listing
from cellbills.errors import InvalidProgram
from cellbills.reader import read_text
from cellbills.rows import is_listing
from tests.checks import Checks, spoilt
from tests.list_programs import list_program
from tests.random_rows import Rows
from tests.samples import EMPTY, ODD, random_program

PROGRAM = read_text("""
kind list = nil[] | cons[num, list]
kind four = all4[num, num, num, num]
calls step = (num) to num
fun f(n: num, m: num): num = n
fun g(): num = 1
fun h(a: num, b: num, c: num, d: num, e: num, l: list): num = drop l; a
""")
LAST = [("return", 0)]
NOT_SLOTS = (64, -1, 10 ** 29, True, False, None, "0", (0,), [0])
NOT_PLACES = (4, -1, 10 ** 29, True, False, None, "0", (0,))
NOT_TUPLES = ([0, 1], None, 0, "01", {0: 1})

RIGHT = [
    ("num", 0, 5), ("num", 63, -2 ** 63), ("num", 0, 2 ** 63 - 1), ("flag", 0, True), ("flag", 63, False),
    ("move", 0, 63), ("move", 5, 5), ("deed", 0, "plus", (0, 0)), ("deed", 63, "less", (63, 1)),
    ("deed", 1, "not", (1,)), ("deed", 1, "both", (1, 2)),
    ("build", 0, "nil", ()), ("build", 0, "cons", (0, 0)), ("build", 1, "all4", (1, 2, 3, 63)), ("build", 2, "f", ()),
    ("build", 2, "f", (2, 2)), ("build", 2, "g", ()), ("build", 2, "h", (1, 2, 3, 4)),
    ("take", 0, (("nil", (), 0),)), ("take", 0, (("cons", (0, 1), 3), ("nil", (), 0))),
    ("take", 63, (("f", (1, 2), 3), ("nil", (), 0), ("g", (), 1), ("h", (4, 3, 2, 1), 2))), ("take", 1, (("f", (), 3),)),
    ("part", 0, (("cons", (0, 1), 3), ("nil", (), 0))),
    ("refill", 0, 1, "cons", (0, 1)), ("refill", 5, 5, "f", (5,)), ("free", 0), ("free", 63), ("drop", 63),
    ("test", 63, 3), ("push", 0, 0, ()), ("push", 63, 3, tuple(range(63))), ("push", 1, 2, (3, 2, 0)),
    ("handle", 0, 0, 0, 0, ()), ("handle", 1, 3, 0, 2, (3, 2)), ("handle", 63, 3, 62, 3, tuple(range(62))),
    ("handle", 63, 3, 63, 3, tuple(range(63))), ("jump", "f"), ("jump", "h"), ("enter", 0), ("enter", 63),
    ("return", 63), ("raise", 63),
]


def with_row(row):
    """Return a listing of the program of four rows each, one of which is told."""
    rows = [("free", 0), row, ("test", 0, 0), ("return", 0)]
    return [("f", rows), ("g", list(LAST)), ("h", list(LAST))]


class RowsTest(Checks, unittest.TestCase):

    def right(self, *rows):
        for row in rows:
            with self.subTest(row=row):
                self.is_told(True, is_listing, PROGRAM, with_row(row))

    def wrong(self, *rows):
        for row in rows:
            with self.subTest(row=row):
                self.is_told(False, is_listing, PROGRAM, with_row(row))

    def test_right_rows(self):
        self.right(*RIGHT)

    def test_forms(self):
        for row in RIGHT:
            self.wrong(row[:-1], row + (0,), list(row), (row,), row[1:], (row[0].upper(),) + row[1:], (None,) + row[1:])
        self.wrong((), None, "num", ("num",), ("end", 0), ("go", "f", ()), ([], 0), ({}, 0), *ODD)

    def test_registers(self):
        for slot in NOT_SLOTS:
            self.wrong(("num", slot, 5), ("flag", slot, True), ("move", slot, 0), ("move", 0, slot),
                       ("deed", slot, "not", (1,)), ("deed", 1, "plus", (1, slot)), ("deed", 1, "not", (slot,)),
                       ("build", slot, "nil", ()), ("build", 0, "cons", (slot, 1)), ("take", slot, (("nil", (), 0),)),
                       ("take", 0, (("cons", (1, slot), 0),)), ("part", slot, (("nil", (), 0),)),
                       ("part", 0, (("cons", (slot, 1), 0),)), ("refill", slot, 0, "cons", (1, 2)),
                       ("refill", 0, slot, "cons", (1, 2)), ("refill", 0, 1, "cons", (1, slot)), ("free", slot),
                       ("drop", slot), ("test", slot, 0), ("push", slot, 0, ()), ("push", 1, 0, (slot,)),
                       ("handle", slot, 0, 1, 0, ()), ("handle", 1, 0, slot, 0, ()), ("handle", 1, 0, 1, 0, (2, slot)),
                       ("enter", slot), ("return", slot), ("raise", slot))
        for slots in NOT_TUPLES:
            self.wrong(("deed", 1, "plus", slots), ("build", 0, "cons", slots), ("take", 0, (("cons", slots, 0),)),
                       ("refill", 0, 2, "cons", slots), ("push", 3, 0, slots), ("handle", 3, 0, 3, 0, slots))

    def test_places(self):
        for place in NOT_PLACES:
            self.wrong(("take", 0, (("nil", (), place),)), ("part", 0, (("cons", (1, 2), 0), ("nil", (), place))),
                       ("test", 0, place), ("push", 0, place, ()), ("handle", 0, place, 0, 0, ()),
                       ("handle", 0, 0, 0, place, ()))

    def test_numbers_flags_and_signs(self):
        for number in (2 ** 63, -2 ** 63 - 1, True, False, None, "5", (5,)):
            self.wrong(("num", 0, number))
        for flag in (0, 1, None, "yes", (True,)):
            self.wrong(("flag", 0, flag))
        for sign in ("+", "", "PLUS", None, 0, ["plus"], ("plus",), {}):
            self.wrong(("deed", 0, sign, (0, 1)))
        self.wrong(("deed", 0, "plus", (0,)), ("deed", 0, "plus", (0, 1, 2)), ("deed", 0, "not", ()),
                   ("deed", 0, "not", (0, 1)), ("deed", 0, "both", (0,)), ("deed", 0, "same", ()))

    def test_tags(self):
        for tag in ("f1", "", None, 0, ["nil"], ("nil",), "list", "num"):
            self.wrong(("build", 0, tag, ()), ("refill", 0, 1, tag, (2,)), ("take", 0, ((tag, (), 0),)),
                       ("part", 0, ((tag, (), 0),)))
        for tag, many in (("nil", 1), ("cons", 1), ("cons", 3), ("all4", 3), ("f", 3), ("g", 1), ("h", 5)):
            slots = tuple(range(many))
            self.wrong(("build", 9, tag, slots), ("refill", 9, 8, tag, slots), ("take", 9, ((tag, slots, 0),)),
                       ("part", 9, ((tag, slots, 0),)))
        self.wrong(("build", 0, "cons", ()), ("refill", 0, 1, "nil", ()), ("refill", 0, 1, "f", ()),
                   ("jump", "cons"), ("jump", "f1"), ("jump", None), ("jump", 0), ("jump", ["f"]))

    def test_ways(self):
        nil, cons = ("nil", (), 0), ("cons", (1, 2), 0)
        for word in ("take", "part"):
            self.right((word, 0, (nil, cons)), (word, 0, (cons,)))
            self.wrong((word, 0, ()), (word, 0, [nil]), (word, 0, None), (word, 0, nil), (word, 0, (nil, nil)),
                       (word, 0, (nil, cons, ("nil", (), 1))), (word, 0, (("cons", (1, 1), 0),)),
                       (word, 0, (("f", (2,), 0), ("f", (1, 2), 0))), (word, 0, (list(nil),)), (word, 0, (nil + (0,),)),
                       (word, 0, (nil[:2],)), (word, 0, (("cons", [1, 2], 0),)), (word, 0, (None,)), (word, 0, "ab"))

    def test_registers_that_have_to_be_unlike(self):
        self.wrong(("push", 0, 0, (1, 1)), ("push", 1, 0, (2, 1)), ("handle", 0, 0, 1, 0, (2, 2)),
                   ("handle", 0, 0, 1, 0, (2, 0)), ("handle", 0, 0, 1, 0, (1, 2)), ("handle", 1, 0, 1, 0, (1,)))
        self.right(("handle", 1, 0, 1, 0, (2,)))

    def test_listings(self):
        full = with_row(("num", 0, 5))
        self.is_told(True, is_listing, PROGRAM, full)
        for value in (full[:2], full + full[:1], full[::-1], [full[1], full[0], full[2]], full[:2] + full[:1], tuple(full),
                      full[:2] + [["h", LAST]], full[:2] + [("h", tuple(LAST))], full[:2] + [("h", [])],
                      full[:2] + [("h", None)], full[:2] + [("h", LAST, 0)], full[:2] + [("h",)], full[:2] + [("i", LAST)],
                      full[:2] + [(None, LAST)], full[:2] + [None], [], None, dict(full)):
            self.is_told(False, is_listing, PROGRAM, value)
        for odd in ODD:
            self.is_told(False, is_listing, PROGRAM, odd)
            self.is_told(False, is_listing, PROGRAM, full[:2] + [("h", odd)])
            self.is_told(False, is_listing, PROGRAM, full[:2] + [("h", [odd])])
            self.is_told(odd == [], is_listing, EMPTY, odd)
        for many in (1, 30000, 30001, 0):
            value = full[:2] + [("h", [("test", 0, max(0, many - 1))] * many)]
            self.is_told(many in (1, 30000), is_listing, PROGRAM, value)
        self.is_told(False, is_listing, PROGRAM, full[:2] + [("h", [("test", 0, 30000)] * 30000)])

    def test_spoilt_values(self):
        for row in RIGHT:
            for value in spoilt(with_row(row), random.Random(0)):
                self.assertIn(is_listing(PROGRAM, value), (True, False))

    def test_what_is_made_is_one(self):
        for seed in range(30):
            for program in (random_program(seed), list_program(seed)):
                self.is_told(True, is_listing, program, listing(program))
                rows = Rows(random.Random(seed), program, 9)
                names = [function[0] for function in program[2]]
                if program[1] and len(program[1]) > 1:
                    value = [(name, [rows.row() for _ in range(9)]) for name in names]
                    self.is_told(True, is_listing, program, value)

    def test_errors(self):
        for odd in ODD:
            if odd != EMPTY:
                self.refused(is_listing, InvalidProgram, 0, odd, None)


if __name__ == "__main__":
    unittest.main()
