"""[43], [44]: the machine, row by row."""

import random
import unittest

from cellbills.codegen import listing
from cellbills.errors import InvalidList, InvalidName, InvalidNumber, InvalidProgram, InvalidRows
from cellbills.forest import is_forest
from cellbills.machine import Machine, run
from cellbills.reader import read_text
from cellbills.values import size
from tests.checks import Checks
from tests.plain_machine import PlainMachine
from tests.random_rows import guided_listing
from tests.samples import NIL, ODD, random_program, random_thing, row, share_lists

PROGRAM = read_text("""
kind list = nil[] | cons[num, list]
kind tree = leaf[flag] | fork[tree, list, tree] | tip[]
calls step = (num) to num
calls two = (num, list) to num
fun f(l: list, m: list, n: num, c: flag): num = drop l; drop m; n
fun g(n: num): num = n
fun k(a: num, l: list, n: num, m: list): num = drop l; drop m; n
fun t(t: tree): num = drop t; 1
""")
REST = [("g", [("return", 0)]), ("k", [("return", 0)]), ("t", [("return", 0)])]
BARE = ("bare", "nil")


def cells_of(machine):
    return machine.picture()[4]


class Base(Checks, unittest.TestCase):

    def made(self, rows, arguments=(NIL, NIL, 5, True), cells=9, name="f", others=None):
        """Return a machine whose function has these rows, beside it another one that tells the same."""
        rest = dict(REST, **(others or {}))
        self.listing = [("f", list(rows))] + [(own, rest[own]) for own in ("g", "k", "t")]
        return Machine(PROGRAM, self.listing, name, list(arguments), cells)

    def slots(self, machine, *wanted):
        """Check the first registers of a machine; the others hold nothing."""
        held = machine.picture()[0]
        self.assertEqual(repr(held[:len(wanted)]), repr(list(wanted)))
        self.assertEqual(held[len(wanted):], [None] * (64 - len(wanted)))
        self.assertTrue(is_forest(machine.picture()))

    def stuck(self, rows, *arguments, cells=9):
        """Check that the last one of some rows is stuck, and that nothing of it is done."""
        machine = self.made(rows, arguments or (NIL, NIL, 5, True), cells)
        self.assertEqual(machine.run(len(rows) - 1), ("on",))
        before = machine.picture()
        self.assertEqual(machine.step(), ("stuck",))
        self.assertEqual(machine.picture(), before)
        self.assertEqual((machine.outcome, machine.place, machine.many), (("stuck",), ("f", len(rows) - 1), len(rows) - 1))
        self.assertEqual((machine.step(), machine.run(5)), (("stuck",), ("stuck",)))
        self.assertEqual(machine.picture(), before)


class RowTest(Base):

    def test_the_beginning(self):
        machine = self.made([("return", 2)], [row([1, 2]), row([3]), -7, False], 5)
        self.slots(machine, ("cell", 2), ("cell", 3), -7, False)
        cells = [("cons", (2, BARE), 0), ("cons", (1, ("cell", 1)), 0), ("cons", (3, BARE), 0), (None, (), 5), (None, (), 0)]
        self.assertEqual(machine.picture()[1:], (0, 0, 4, cells))
        self.assertEqual((machine.outcome, machine.place, machine.many, machine.available()), (None, ("f", 0), 0, 2))
        tree = ("node", "fork", (("node", "leaf", (True,)), row([8]), ("node", "fork", (
            ("node", "tip", ()), NIL, ("node", "leaf", (False,))))))
        machine = Machine(PROGRAM, listing(PROGRAM), "t", [tree], 5)
        self.assertEqual(machine.picture()[1:], (0, 0, 0, [
            ("leaf", (True,), 0), ("cons", (8, BARE), 0), ("leaf", (False,), 0),
            ("fork", (("bare", "tip"), BARE, ("cell", 3)), 0), ("fork", (("cell", 1), ("cell", 2), ("cell", 4)), 0)]))
        machine = self.made([("return", 2)], cells=0)
        self.assertEqual(machine.picture()[1:], (0, 0, 0, []))
        self.assertEqual(machine.available(), 0)

    def test_numbers_flags_and_moves(self):
        machine = self.made([("num", 4, -9), ("flag", 4, False), ("num", 0, 1), ("move", 5, 4), ("move", 2, 1),
                             ("move", 2, 2), ("move", 1, 2), ("move", 4, 4)], [row([1]), row([2]), 5, True], 2)
        self.assertEqual(machine.run(2), ("on",))
        self.slots(machine, ("cell", 1), ("cell", 2), 5, True, False)
        # What stood there is given back as it is.
        machine.step()
        self.slots(machine, 1, ("cell", 2), 5, True, False)
        self.assertEqual(machine.picture()[3:], (1, [(None, (1, BARE), 0), ("cons", (2, BARE), 0)]))
        machine.run(2)
        self.slots(machine, 1, None, ("cell", 2), True, False, False)
        machine.step()
        self.slots(machine, 1, None, ("cell", 2), True, False, False)
        machine.run(2)
        self.slots(machine, 1, ("cell", 2), None, True, False, False)
        self.stuck([("move", 5, 4)])
        self.assertEqual(machine.available(), 1)

    def test_deeds(self):
        machine = self.made([("num", 4, 2 ** 63 - 1), ("deed", 0, "plus", (4, 2)), ("deed", 2, "less", (2, 4)),
                             ("deed", 3, "both", (3, 2)), ("deed", 3, "not", (3,)), ("deed", 1, "over", (4, 4))],
                            [row([1]), row([2]), 5, True], 2)
        self.assertEqual(machine.run(6), ("on",))
        self.slots(machine, -2 ** 63 + 4, 1, True, False, 2 ** 63 - 1)
        self.assertEqual(machine.picture()[3:], (2, [(None, (1, BARE), 0), (None, (2, BARE), 1)]))
        for sign, slots in (("plus", (2, 3)), ("plus", (3, 2)), ("both", (3, 2)), ("not", (2,)), ("same", (2, 0)),
                            ("any", (0, 3)), ("minus", (2, 9)), ("rest", (9, 9))):
            self.stuck([("deed", 4, sign, slots)])

    def test_builds(self):
        machine = self.made([("build", 4, "nil", ()), ("build", 4, "cons", (2, 4)), ("build", 5, "leaf", (3,)),
                             ("build", 0, "k", (2, 4)), ("build", 0, "g", ())], [row([1]), NIL, 5, True], 4)
        machine.run(3)
        self.slots(machine, ("cell", 1), BARE, 5, True, ("cell", 2), ("cell", 3))
        machine.step()
        # The new cell is taken ahead of what is given back; numbers stay, nodes leave.
        self.slots(machine, ("cell", 4), BARE, 5, True, None, ("cell", 3))
        self.assertEqual(machine.picture()[3:], (1, [
            (None, (1, BARE), 0), ("cons", (5, BARE), 0), ("leaf", (True,), 0), ("k", (5, ("cell", 2)), 0)]))
        machine.step()
        self.slots(machine, ("bare", "g"), BARE, 5, True, None, ("cell", 3))
        self.assertEqual(machine.picture()[3:], (4, [
            (None, (1, BARE), 0), ("cons", (5, BARE), 0), ("leaf", (True,), 0), (None, (5, ("cell", 2)), 1)]))
        self.assertEqual(machine.available(), 3)

    def test_builds_that_cant_be(self):
        self.stuck([("build", 4, "cons", (2, 9))])
        self.stuck([("build", 4, "fork", (0, 1, 0))])
        self.stuck([("build", 4, "k", (2, 0, 2, 0))])
        self.stuck([("build", 4, "cons", (2, 9))], cells=0)
        hollow = ("part", 0, (("cons", (4, 5), 1), ("nil", (), 1)))
        self.stuck([hollow, ("build", 4, "cons", (2, 0))], row([1]), NIL, 5, True)
        machine = self.made([("build", 4, "cons", (2, 2)), ("build", 4, "cons", (3, 3))], cells=2)
        self.assertEqual(machine.run(2), ("on",))
        machine = self.made([("build", 0, "cons", (2, 0))], [row([1]), NIL, 5, True], 1)
        before = machine.picture()
        # What would be given back does not help, as new cells are taken first.
        self.assertEqual((machine.run(9), machine.picture(), machine.place, machine.many),
                         (("want",), before, ("f", 0), 0))
        self.assertEqual((machine.step(), machine.outcome, machine.run(0)), (("want",),) * 3)
        self.assertEqual(self.made([("build", 0, "nil", ())], cells=0).run(1), ("on",))

    def test_takes(self):
        ways = (("nil", (), 1), ("cons", (4, 1), 1))
        machine = self.made([("take", 0, ways), ("free", 0)], [row([1, 2]), row([3]), 5, True], 4)
        self.assertIsNone(machine.step())
        # The own cell comes free first, and then what stood in a register of the way.
        self.slots(machine, None, ("cell", 1), 5, True, 1)
        self.assertEqual(machine.picture()[3:], (3, [
            ("cons", (2, BARE), 0), (None, (), 4), (None, (3, BARE), 2), (None, (), 0)]))
        self.assertEqual(machine.place, ("f", 1))
        machine = self.made([("take", 0, (("nil", (), 0), ("cons", (0, 4), 0)))], [row([1, 2]), row([3]), 5, True], 3)
        machine.step()
        self.slots(machine, 1, ("cell", 3), 5, True, ("cell", 1))
        machine = self.made([("take", 1, ways), ("test", 3, 0)])
        machine.step()
        self.slots(machine, BARE, None, 5, True)
        for slot in (1, 2, 3, 9):
            self.stuck([("take", slot, (("nil", (), 0), ("leaf", (3,), 0)))], NIL, row([1]), 5, True)
        self.stuck([("take", 1, (("nil", (), 0),))], NIL, row([1]), 5, True)

    def test_order_of_what_a_way_gives_back(self):
        tree = ("node", "fork", (("node", "tip", ()), NIL, ("node", "tip", ())))
        for names, first, links in (((4, 5, 6), 6, (0, 1, 2, 3)), ((6, 4, 5), 5, (0, 1, 2, 3))):
            rows = [("move", 9, 0), ("flag", 3, True), ("build", 4, "leaf", (3,)), ("build", 5, "leaf", (3,)),
                    ("build", 6, "leaf", (3,)), ("take", 9, (("fork", names, 6),)), ("free", 0)]
            machine = Machine(PROGRAM, [("f", [("free", 0)]), REST[0], REST[1], ("t", rows)], "t", [tree], 4)
            self.assertEqual(machine.run(6), ("on",))
            order = [machine.picture()[3]]
            while cells_of(machine)[order[-1] - 1][2]:
                order.append(cells_of(machine)[order[-1] - 1][2])
            self.assertEqual(order, [slot - 2 for slot in names[::-1]] + [1])

    def test_takes_of_kept_functions(self):
        rows = [("build", 4, "k", (2, 0)), ("take", 4, (("k", (4, 5), 2), ("cons", (0, 1), 0))), ("build", 6, "g", ()),
                ("take", 6, (("g", (), 4),)), ("free", 0)]
        machine = self.made(rows)
        self.assertEqual(machine.run(4), ("on",))
        self.slots(machine, None, BARE, 5, True, 5, BARE)
        self.assertEqual(machine.available(), 9)
        # A way that names another number of registers is none for it.
        self.stuck([("build", 4, "k", (2, 0)), ("take", 4, (("k", (4,), 0),))])
        self.stuck([("build", 4, "k", (2, 0)), ("take", 4, (("k", (), 0),))])
        self.stuck([("build", 4, "g", ()), ("take", 4, (("g", (7,), 0),))])

    def test_parts_refills_and_frees(self):
        ways = (("nil", (), 1), ("cons", (4, 5), 1))
        machine = self.made([("part", 0, ways), ("refill", 6, 0, "leaf", (3,)), ("part", 6, (("leaf", (7,), 3),)),
                             ("move", 8, 6), ("refill", 8, 8, "cons", (4, 5)), ("part", 8, ways), ("free", 8)],
                            [row([1]), NIL, 5, True], 2)
        machine.step()
        self.slots(machine, ("hollow", 1), BARE, 5, True, 1, BARE)
        self.assertEqual(machine.picture()[3:], (2, [("", (), 0), (None, (), 0)]))
        self.assertEqual(machine.available(), 1)
        machine.step()
        self.slots(machine, None, BARE, 5, True, 1, BARE, ("cell", 1))
        self.assertEqual(cells_of(machine)[0], ("leaf", (True,), 0))
        machine.run(2)
        self.slots(machine, None, BARE, 5, True, 1, BARE, None, True, ("hollow", 1))
        machine.step()
        self.slots(machine, None, BARE, 5, True, 1, None, None, True, ("cell", 1))
        machine = self.made([("part", 0, ways), ("free", 0), ("num", 0, 1)], [row([1]), NIL, 5, True], 2)
        machine.run(2)
        self.slots(machine, None, BARE, 5, True, 1, BARE)
        self.assertEqual(machine.picture()[3:], (1, [(None, (), 2), (None, (), 0)]))
        # A hollow cell that gets another content is given back, too; a bare thing leaves none.
        machine = self.made([("part", 0, ways), ("num", 0, 8)], [row([1]), NIL, 5, True], 2)
        machine.run(2)
        self.slots(machine, 8, BARE, 5, True, 1, BARE)
        self.assertEqual(machine.picture()[3:], (1, [(None, (), 2), (None, (), 0)]))
        machine = self.made([("part", 0, ways), ("free", 0)])
        machine.step()
        self.slots(machine, None, BARE, 5, True)
        # A part of a bare thing may name its own register.
        machine = self.made([("part", 0, (("nil", (), 1), ("cons", (0, 1), 0))), ("free", 0)])
        self.assertIsNone(machine.step())
        machine = self.made([("part", 0, ways), ("refill", 1, 0, "cons", (4, 5))], [row([1]), row([2]), 5, True], 2)
        machine.run(2)
        self.slots(machine, None, ("cell", 1), 5, True, 1)
        self.assertEqual(machine.picture()[3:], (2, [("cons", (1, BARE), 0), (None, (2, BARE), 0)]))

    def test_parts_refills_and_frees_that_cant_be(self):
        one = (row([1]), NIL, 5, True)
        part = ("part", 0, (("nil", (), 1), ("cons", (4, 5), 1)))
        self.stuck([("part", 0, (("cons", (0, 1), 0),))], *one)
        self.stuck([("part", 0, (("cons", (1, 0), 0),))], *one)
        for slot in (2, 3, 9):
            self.stuck([("part", slot, (("nil", (), 0),))], *one)
        self.stuck([part, ("part", 0, (("nil", (), 0),))], *one)
        self.stuck([part, ("take", 0, (("nil", (), 0),))], *one)
        for slot in (0, 1, 2, 3, 9):
            self.stuck([("free", slot)], *one)
            self.stuck([("refill", 9, slot, "leaf", (3,))], *one)
        self.stuck([part, ("refill", 9, 0, "cons", (2, 0))], *one)
        self.stuck([part, ("refill", 9, 0, "cons", (2, 9))], *one)
        self.stuck([part, ("refill", 9, 0, "fork", (1, 1, 1))], *one)
        self.stuck([part, ("drop", 0)], *one)
        for slot in (2, 3, 9):
            self.stuck([("drop", slot)], *one)

    def test_drops_and_cells_below_others(self):
        rows = [("drop", 0), ("drop", 1), ("build", 0, "cons", (2, 4)), ("build", 4, "nil", ()), ("build", 0, "cons", (2, 4)),
                ("build", 5, "leaf", (3,)), ("build", 6, "leaf", (3,)), ("build", 7, "leaf", (3,))]
        tree = ("node", "fork", (("node", "leaf", (True,)), row([8, 9]), ("node", "leaf", (False,))))
        first = [("num", 4, 1), ("flag", 3, False), ("drop", 0), ("build", 5, "leaf", (3,)), ("build", 6, "leaf", (3,)),
                 ("build", 7, "leaf", (3,)), ("build", 8, "leaf", (3,))]
        machine = Machine(PROGRAM, [("f", rows), REST[0], REST[1], ("t", first)], "t", [tree], 6)
        machine.run(3)
        self.assertEqual(machine.picture()[3:], (5, [
            ("leaf", (True,), 0), ("cons", (9, BARE), 0), ("cons", (8, ("cell", 2)), 0), ("leaf", (False,), 0),
            (None, (("cell", 1), ("cell", 3), ("cell", 4)), 6), (None, (), 0)]))
        self.assertEqual(machine.available(), 6)
        # What is taken brings those below it onto the list, the last one foremost.
        machine.step()
        self.assertEqual(machine.picture()[3:], (4, [
            (None, (True,), 6), ("cons", (9, BARE), 0), (None, (8, ("cell", 2)), 1), (None, (False,), 3),
            ("leaf", (False,), 0), (None, (), 0)]))
        machine.run(2)
        self.assertEqual(machine.picture()[3:], (2, [
            (None, (True,), 6), (None, (9, BARE), 1), ("leaf", (False,), 0), ("leaf", (False,), 0),
            ("leaf", (False,), 0), (None, (), 0)]))
        machine.step()
        self.assertEqual(machine.picture()[3], 1)
        self.assertEqual(machine.available(), 2)
        machine = self.made(rows, [row([1]), NIL, 5, True], 1)
        machine.run(2)
        self.slots(machine, None, None, 5, True)
        self.assertEqual(machine.picture()[3:], (1, [(None, (1, BARE), 0)]))
        self.assertEqual(machine.step(), ("stuck",))

    def test_tests(self):
        rows = [("test", 3, 2), ("free", 0), ("flag", 4, False), ("test", 4, 0)]
        machine = self.made(rows)
        machine.step()
        self.assertEqual(machine.place, ("f", 1))
        machine = self.made(rows, [NIL, NIL, 5, False])
        machine.step()
        self.assertEqual(machine.place, ("f", 2))
        machine.run(2)
        self.assertEqual(machine.place, ("f", 0))
        for slot in (0, 2, 9):
            self.stuck([("test", slot, 0)])

    def test_behind_the_last_row(self):
        machine = self.made([("num", 2, 1)])
        self.assertEqual((machine.run(1), machine.place), (("on",), ("f", 1)))
        self.assertEqual((machine.step(), machine.place, machine.many), (("stuck",), ("f", 1), 1))


class LeapTest(Base):

    def test_frames(self):
        one = [row([1]), row([2]), 5, True]
        rows = [("push", 9, 5, (3, 0, 2, 1)), ("num", 7, 4), ("return", 7), ("free", 0), ("free", 0), ("return", 9)]
        machine = self.made(rows, one, 5)
        machine.step()
        # Numbers stay; by threes front to back, the rest in the last cell, which is taken first.
        self.slots(machine, None, None, 5, True)
        mark = ("frame", "f", 0)
        self.assertEqual(machine.picture()[1:], (4, 0, 5, [
            ("cons", (1, BARE), 0), ("cons", (2, BARE), 0), (mark, (("cell", 2),), 0),
            (mark, (True, ("cell", 1), 5), 3), (None, (), 0)]))
        machine.run(2)
        self.slots(machine, ("cell", 1), ("cell", 2), 5, True, None, None, None, None, None, 4)
        # The cells come free front to back, so that the last one lies foremost.
        self.assertEqual(machine.picture()[1:], (0, 0, 3, [
            ("cons", (1, BARE), 0), ("cons", (2, BARE), 0), (None, (), 4), (None, (), 5), (None, (), 0)]))
        self.assertEqual(machine.place, ("f", 5))
        self.assertEqual(machine.run(1), ("value", 4))
        # What stands in registers is given back from 0 on, at the end, too.
        self.slots(machine, 4)
        self.assertEqual(machine.picture()[3:], (2, [
            (None, (1, BARE), 3), (None, (2, BARE), 1), (None, (), 4), (None, (), 5), (None, (), 0)]))
        self.assertEqual((machine.place, machine.many, machine.available()), (("f", 6), 4, 5))

    def test_frames_of_many_sizes(self):
        for many, cells in ((0, 1), (1, 1), (2, 1), (3, 1), (4, 2), (6, 2), (7, 3), (60, 20), (63, 21)):
            slots = tuple(range(1, many + 1))
            rows = [("push", 0, 3, slots), ("num", 0, 1), ("return", 0), ("free", 0)]
            filled = [("num", slot, slot) for slot in slots]
            for more in (0, 1):
                start = filled + [(row[0], row[1], row[2] + len(filled)) + row[3:] if row[0] == "push" else row for row in rows]
                machine = self.made(start, cells=cells - 1 + more)
                told = machine.run(len(filled) + 1)
                self.assertEqual(told, ("on",) if more else ("want",))
                if more:
                    self.assertEqual([len(own[1]) for own in cells_of(machine)[::-1]],
                                     [min(3, many - at) for at in range(0, many, 3)] or [0])
                    machine.run(2)
                    self.assertEqual(machine.picture()[0], [1] + list(slots) + [None] * (63 - many))

    def test_frames_hang_on_one_another(self):
        rows = [("push", 9, 3, (2,)), ("push", 8, 4, ()), ("push", 7, 5, (3,)), ("num", 1, 1), ("return", 7),
                ("return", 7), ("return", 8)]
        machine = self.made(rows, cells=3)
        machine.run(3)
        self.assertEqual(machine.picture()[1:], (3, 0, 0, [
            (("frame", "f", 0), (5,), 0), (("frame", "f", 1), (), 1), (("frame", "f", 2), (True,), 2)]))
        machine.step()
        self.assertEqual([machine.step(), machine.place, machine.picture()[1]], [("stuck",), ("f", 4), 3])

    def test_pushes_that_cant_be(self):
        one = (row([1]), NIL, 5, True)
        part = ("part", 0, (("cons", (4, 5), 1),))
        self.stuck([("push", 0, 0, (9,))], *one)
        self.stuck([part, ("push", 1, 0, (0,))], *one)
        self.stuck([("handle", 0, 0, 0, 0, (9, 1))], *one)
        self.stuck([part, ("handle", 1, 0, 1, 0, (4, 0))], *one)
        # Looked at ahead of cells.
        self.stuck([("push", 0, 0, (9,))], *one, cells=1)
        self.assertEqual(self.made([("push", 9, 0, (0,))], one, 1).step(), ("want",))
        self.assertEqual(self.made([("handle", 9, 0, 9, 0, (0, 1))], one, 2).step(), ("want",))
        self.assertIsNone(self.made([("handle", 9, 0, 9, 0, (0,))], one, 2).step())
        # Cells below others are free, too.
        rows = [("drop", 0), ("push", 9, 0, (2, 3, 4, 5)), ("num", 4, 0), ("num", 5, 0)]
        machine = self.made(rows[2:] + rows[:2], [row([1, 2]), NIL, 5, True], 2)
        self.assertEqual(machine.run(4), ("on",))
        mark = ("frame", "f", 3)
        self.assertEqual(machine.picture()[1:], (1, 0, 0, [(mark, (5, True, 0), 2), (mark, (0,), 0)]))

    def test_handlers(self):
        one = [row([1]), row([2]), 5, True]
        rows = [("push", 9, 9, ()), ("handle", 8, 6, 7, 7, (2, 0)), ("push", 6, 7, (3,)), ("handle", 5, 8, 5, 8, ()),
                ("num", 4, 4), ("return", 4), ("free", 0), ("free", 0), ("free", 0), ("return", 9)]
        machine = self.made(rows, one, 8)
        machine.run(2)
        self.slots(machine, None, ("cell", 2), 5, True)
        self.assertEqual(machine.picture()[1:4], (0, 5, 6))
        self.assertEqual(cells_of(machine)[2:5], [
            (("frame", "f", 0), (), 0), (("handler", "f", 1), (("cell", 1),), 0),
            (("handler", "f", 1), (("cell", 3), None, 5), 4)])
        machine.run(2)
        self.assertEqual(machine.picture()[1:4], (0, 7, 8))
        self.assertEqual(cells_of(machine)[5:7], [
            (("frame", "f", 2), (True,), 0), (("handler", "f", 3), (("cell", 6), ("cell", 5)), 0)])
        # Back to the handler, whose frame and handler come back.
        machine.run(2)
        self.assertEqual((machine.place, machine.picture()[1:4]), (("f", 8), (6, 5, 7)))
        self.slots(machine, None, None, None, None, None, 4)
        self.assertEqual(cells_of(machine)[6], (None, (), 2))

    def test_raise_through_frames(self):
        rows = [("push", 9, 0, (0,)), ("push", 9, 0, (1, 2, 3, 4)), ("num", 5, 1), ("raise", 2)]
        start = [("build", 4, "nil", ()), ("build", 4, "cons", (2, 4))]
        one = [row([1]), row([2]), 5, True]
        machine = self.made(start + rows, one, 7)
        machine.run(5)
        self.assertEqual(machine.picture()[1:4], (6, 0, 7))
        self.assertEqual(machine.run(1), ("fault", 5))
        # All at once: the last frame alone is put onto the list, the others lie below it.
        self.slots(machine)
        self.assertEqual(machine.picture()[1:], (0, 0, 6, [
            ("cons", (1, BARE), 0), ("cons", (2, BARE), 0), ("cons", (5, BARE), 0),
            (("frame", "f", 2), (("cell", 1),), 0), (("frame", "f", 3), (("cell", 3),), 4),
            (None, (("cell", 2), 5, True, ("cell", 5)), 7), (None, (), 0)]))
        self.assertEqual((machine.available(), machine.place, machine.many), (7, ("f", 6), 6))
        for slot in (0, 3, 9):
            self.stuck([("raise", slot)])

    def test_raise_to_a_handler(self):
        for same in (False, True):
            n = 8 if same else 7
            rows = [("push", 9, 0, ()), ("handle", 8, 0, n, 5, (0,)), ("push", 6, 0, (1,)), ("num", 4, 44), ("raise", 4),
                    ("return", n)]
            machine = self.made(rows, [row([1]), row([2]), 5, True], 6)
            machine.run(5)
            self.assertEqual(machine.place, ("f", 5))
            self.slots(machine, ("cell", 1), *[None] * (n - 1), 44)
            # The frames ahead of the handler.
            self.assertEqual(machine.picture()[1:4], (3, 0, 4))
            self.assertEqual(cells_of(machine)[3:], [(None, (), 5), (None, (("cell", 2),), 6), (None, (), 0)])
            self.assertIsNone(machine.step())
            self.slots(machine, *[None] * 9, 44)

    def test_returns(self):
        machine = self.made([("return", 1)], [row([1]), row([2, 3]), 5, True], 4)
        self.assertEqual(machine.step(), ("value", row([2, 3])))
        self.slots(machine, ("cell", 3))
        self.assertEqual(machine.available(), 2)
        machine = self.made([("build", 0, "k", (2, 0)), ("return", 0)])
        self.assertEqual(machine.run(2), ("value", ("kept", "k", (5, NIL))))
        machine = self.made([("build", 0, "g", ()), ("return", 0)])
        self.assertEqual(machine.run(2), ("value", ("kept", "g", ())))
        self.assertEqual(self.made([("return", 3)]).step(), ("value", True))
        self.stuck([("return", 9)])
        self.stuck([("part", 0, (("cons", (4, 5), 1),)), ("return", 0)], row([1]), NIL, 5, True)

    def test_jumps(self):
        rows = [("move", 4, 1), ("move", 1, 0), ("jump", "k")]
        machine = self.made(rows, [row([1]), row([2]), 5, True], 3, others={"k": [("return", 0), ("free", 1)]})
        machine.run(3)
        # As many as it has parameters, whatever stands in them.
        self.slots(machine, None, ("cell", 1), 5, True)
        self.assertEqual(machine.place, ("k", 0))
        self.assertEqual(machine.picture()[3:], (2, [("cons", (1, BARE), 0), (None, (2, BARE), 3), (None, (), 0)]))
        self.assertEqual((machine.step(), machine.place), (("stuck",), ("k", 0)))
        machine = self.made([("part", 0, (("cons", (9, 8), 1),)), ("jump", "k")], [row([1]), row([2]), 5, True], 2)
        machine.run(2)
        self.slots(machine, ("hollow", 1), ("cell", 2), 5, True)
        machine = self.made([("jump", "g")], [row([1]), row([2]), 5, True], 2)
        machine.step()
        # Given back from 0 on.
        self.slots(machine, ("cell", 1))
        self.assertEqual(machine.picture()[3:], (2, [("cons", (1, BARE), 0), (None, (2, BARE), 0)]))

    def test_enters(self):
        one = [row([1]), row([2]), 5, True]
        # k lacks two arguments: what it took along comes first.
        rows = [("build", 4, "k", (2, 0)), ("num", 0, 7), ("move", 6, 1), ("build", 1, "nil", ()), ("move", 2, 4),
                ("flag", 3, False), ("enter", 2)]
        machine = self.made(rows, one, 4)
        self.assertEqual(machine.run(7), ("on",))
        self.slots(machine, 5, ("cell", 1), 7, BARE)
        self.assertEqual(machine.place, ("k", 0))
        # Its own cell comes free first, then what stood in the other registers.
        self.assertEqual(machine.picture()[3:], (2, [
            ("cons", (1, BARE), 0), (None, (2, BARE), 3), (None, (), 4), (None, (), 0)]))
        # What stands right behind the kept function is given back, too.
        machine = self.made([("move", 3, 1), ("move", 2, 0), ("build", 1, "g", ()), ("num", 0, 3), ("enter", 1)], one, 2)
        machine.run(5)
        self.slots(machine, 3)
        self.assertEqual(machine.picture()[3:], (2, [(None, (1, BARE), 0), (None, (2, BARE), 1)]))
        machine = self.made([("build", 1, "g", ()), ("num", 0, 3), ("enter", 1)])
        machine.run(3)
        self.slots(machine, 3)
        self.assertEqual((machine.place, machine.run(1)), (("g", 0), ("value", 3)))
        machine = self.made([("build", 0, "g", (2,)), ("enter", 0)])
        machine.run(2)
        self.slots(machine, 5)
        # It lacks another number, is no kept function, or nothing stands there.
        self.stuck([("build", 0, "g", (2,)), ("move", 1, 0), ("num", 0, 3), ("enter", 1)])
        self.stuck([("build", 0, "g", ()), ("enter", 0)])
        self.stuck([("build", 2, "k", (2,)), ("enter", 2)])
        for slot in (0, 2, 3, 9):
            self.stuck([("enter", slot)])
        self.stuck([("part", 0, (("cons", (9, 8), 1),)), ("enter", 0)], *one)

    def test_a_raise_through_very_many_frames(self):
        rows = [("handle", 9, 7, 8, 8, (0,)), ("push", 9, 1, (2,)), ("num", 6, 1), ("deed", 2, "minus", (2, 6)),
                ("deed", 4, "less", (2, 6)), ("test", 4, 1), ("raise", 2), ("free", 0), ("return", 8)]
        machine = self.made(rows, [row([7]), NIL, 49998, True], 50000)
        self.assertEqual(machine.run(5 * 49998 + 1), ("on",))
        self.assertEqual((machine.place, machine.picture()[1:4], machine.available()), (("f", 6), (50000, 2, 0), 0))
        machine.step()
        self.slots(machine, ("cell", 1), *[None] * 7, 0)
        self.assertEqual((machine.picture()[1:4], machine.available()), ((0, 0, 2), 49999))
        self.assertEqual(machine.step(), ("value", 0))
        machine = self.made(rows, [row([7]), NIL, 49999, True], 50000)
        self.assertEqual((machine.run(1000000), machine.place), (("want",), ("f", 1)))
        # Without a handler.
        machine = self.made([("num", 9, 1)] + rows[1:], [row([7]), NIL, 49999, True], 50000)
        self.assertEqual(machine.run(1000000), ("fault", 0))
        self.assertEqual((machine.picture()[3], machine.available()), (50000, 50000))
        self.assertTrue(is_forest(machine.picture()))


class MachineTest(Base):

    def test_run_and_step(self):
        machine = self.made([("num", 0, 1), ("num", 1, 2), ("return", 0)])
        self.assertEqual((machine.run(0), machine.many, machine.outcome), (("on",), 0, None))
        self.assertEqual((machine.run(2), machine.many, machine.outcome), (("on",), 2, None))
        self.assertEqual((machine.run(1), machine.many, machine.outcome), (("value", 1), 3, ("value", 1)))
        self.assertEqual((machine.run(0), machine.run(10 ** 6), machine.step()), (("value", 1),) * 3)
        self.assertEqual((machine.many, machine.place), (3, ("f", 3)))
        # Behind the last row that is let nothing is looked at.
        machine = self.made([("num", 0, 1), ("free", 0)])
        self.assertEqual((machine.run(1), machine.outcome, machine.run(0)), (("on",), None, ("on",)))
        self.assertEqual(machine.run(1), ("stuck",))

    def test_run_at_once(self):
        rows = [("f", [("num", 0, 1), ("return", 0)])] + REST
        one = [row([1]), row([2]), 5, True]
        self.assertEqual(self.told(run, PROGRAM, rows, "f", one, 7, 9), (("value", 1), 7, 2))
        self.assertEqual(run(PROGRAM, rows, "f", one, 2, 2), (("value", 1), 2, 2))
        self.assertEqual(run(PROGRAM, rows, "f", one, 7, 1), (("on",), 6, 1))
        self.assertEqual(run(PROGRAM, rows, "f", one, 7, 0), (("on",), 5, 0))
        self.assertEqual(run(program=PROGRAM, listing=rows, name="g", arguments=[4], cells=0, rows=1), (("value", 4), 0, 1))

    def test_pictures_are_new(self):
        machine = self.made([("num", 0, 1), ("return", 0)])
        one, other = machine.picture(), machine.picture()
        self.assertEqual(one, other)
        self.assertFalse(share_lists([one], [other]))
        one[0][0], one[4][0] = 5, None
        self.assertEqual(machine.picture(), other)

    def test_arguments_that_are_changed_later(self):
        program = read_text("kind list = nil[] | cons[num, list] fun f(n: num): num = n")
        rows = [("f", [("num", 0, 1), ("return", 0)])]
        arguments = [5]
        machine = Machine(program, rows, "f", arguments, 0)
        same = Machine(program, [("f", list(rows[0][1]))], "f", [5], 0)
        rows[0][1][0] = ("num", 0, 2)
        del rows[0][1][1]
        arguments[0] = 6
        program[1][0][2].append(("more", []))
        program[2][0][1].append(("m", "num"))
        program[2].append(None)
        self.assertTrue(machine == same)
        self.assertEqual(machine.run(5), ("value", 1))

    def test_copies(self):
        rows = [("push", 9, 2, (0,)), ("return", 2), ("build", 4, "cons", (9, 0)), ("return", 4)]
        one, kept = self.made(rows, [row([1]), row([2]), 5, True], 4), []
        for _ in range(4):
            other = one.copy()
            self.assertTrue(one == other and other == one)
            self.assertIsInstance(other, Machine)
            kept.append((other, other.picture(), other.place, other.many, other.outcome))
            one.step()
            self.assertFalse(one == other)
        self.assertEqual(one.outcome, ("value", row([5, 1])))
        for other, picture, place, many, outcome in kept:
            self.assertEqual((other.picture(), other.place, other.many, other.outcome), (picture, place, many, outcome))
            self.assertEqual(other.run(9), ("value", row([5, 1])))
            self.assertTrue(other == one)
            self.assertTrue(other.copy() == one)

    def test_equality(self):
        rows = [("num", 0, 1), ("test", 3, 0), ("return", 0)]
        base = lambda: self.made(rows)
        self.assertTrue(base() == base())
        self.assertFalse(base() != base())
        for other in (self.made(rows, cells=8), self.made(rows, [NIL, NIL, 6, True]), self.made(rows, [NIL, NIL, 5, False]),
                      self.made(rows[::-1]), self.made(rows, others={"g": [("raise", 0)]}), self.made(rows, [5], name="g"),
                      self.made(rows, [row([1]), NIL, 5, True])):
            self.assertFalse(base() == other)
            self.assertTrue(base() != other)
        moved = base()
        moved.step()
        self.assertFalse(base() == moved)
        for odd in ODD + [self.listing, base().picture()]:
            self.assertFalse(base() == odd)
            self.assertFalse(odd == base())
        # The same place and picture, but more rows done.
        one, other = self.made([("move", 2, 2), ("test", 3, 0), ("jump", "f")]), None
        other = one.copy()
        one.run(3)
        self.assertEqual((one.place, one.picture()), (other.place, other.picture()))
        self.assertFalse(one == other)
        # Another program with the same rows.
        more = ("program", PROGRAM[1], PROGRAM[2][:3] + [("t", [("t", "tree")], "num", ("drop", "t", ("num", "b", 1, ("end", "b"))))])
        again = ("program", PROGRAM[1], PROGRAM[2][:3] + [("t", [("t", "tree")], "num", ("drop", "t", ("num", "a", 1, ("end", "a"))))])
        told = [Machine(program, self.listing, "g", [4], 0) for program in (PROGRAM, again, more)]
        self.assertTrue(told[0] == told[1])
        self.assertFalse(told[0] == told[2])

    def test_equality_of_pictures(self):
        # Another tag, another content, other links alone.
        program = read_text("""kind list = nil[] | cons[num, list] kind two = one2[num] | other[num]
            fun f(l: list, m: list, t: two, c: flag): num = drop l; drop m; drop t; 1""")
        rows = [("f", [("test", 3, 6), ("drop", 0), ("drop", 1), ("drop", 2), ("flag", 3, False), ("test", 3, 11),
                       ("drop", 1), ("drop", 0), ("drop", 2), ("flag", 3, False), ("test", 3, 11), ("num", 0, 1)])]
        def made(tag="one2", first=1, flag=True, done=0):
            machine = Machine(program, rows, "f", [row([first]), row([2]), ("node", tag, (5,)), flag], 4)
            machine.run(done)
            return machine
        self.assertTrue(made() == made())
        self.assertFalse(made() == made("other"))
        self.assertFalse(made() == made(first=3))
        one, other = made(done=6), made(flag=False, done=6)
        self.assertEqual((one.place, one.many), (other.place, other.many))
        self.assertEqual(one.picture()[:4], other.picture()[:4])
        self.assertEqual([own[:2] for own in cells_of(one)], [own[:2] for own in cells_of(other)])
        self.assertFalse(one == other)
        # Registers alone.
        one, other = made(done=1), made(done=1)
        self.assertTrue(one == other)
        program = read_text("fun f(n: num, m: num): num = n")
        one, other = (Machine(program, [("f", [("return", 0)])], "f", own, 3) for own in ([1, 2], [1, 3]))
        self.assertFalse(one == other)
        # Another fault, with nothing else left.
        one, other = (Machine(program, [("f", [("raise", 0)])], "f", own, 3) for own in ([1, 2], [4, 2]))
        one.step()
        other.step()
        self.assertEqual(one.picture(), other.picture())
        self.assertFalse(one == other)
        # Another kind that no function names.
        more = ("program", [("choice", "k", [("m", [])])], program[2])
        self.assertFalse(Machine(more, [("f", [("return", 0)])], "f", [1, 2], 0)
                         == Machine(program, [("f", [("return", 0)])], "f", [1, 2], 0))

    def test_equality_of_outcomes(self):
        # One that wants or is stuck is unlike one that was not looked at as yet.
        for rows, outcome in (([("build", 4, "leaf", (3,)), ("return", 2)], ("want",)), ([("free", 0)], ("stuck",))):
            one, other = self.made(rows, cells=0), self.made(rows, cells=0)
            self.assertEqual(one.step(), outcome)
            self.assertEqual((one.picture(), one.place, one.many), (other.picture(), other.place, other.many))
            self.assertFalse(one == other)
            other.step()
            self.assertTrue(one == other)

    def test_flags_are_no_numbers(self):
        program = read_text("fun f(c: flag): num = 1 fun g(n: num): num = n fun h(): num = 1")
        rows = [("f", [("jump", "f")]), ("g", [("jump", "f")]), ("h", [("return", 0)])]
        one, other = Machine(program, rows, "f", [True], 0), Machine(program, rows, "g", [1], 0)
        one.step()
        other.step()
        self.assertEqual((one.place, one.many), (other.place, other.many))
        self.assertFalse(one == other)

    def test_against_another_machine(self):
        for seed in range(250):
            rng = random.Random(seed)
            program = random_program(seed % 50)
            name, parameters = rng.choice(program[2])[:2]
            arguments = [random_thing(rng, program, kind) for _, kind in parameters]
            cells = sum(map(size, arguments)) + rng.randrange(12)
            rows = guided_listing(rng, program, name, arguments, cells, 100)
            one, other = (make(program, rows, name, arguments, cells) for make in (Machine, PlainMachine))
            for _ in range(150):
                picture = one.picture()
                self.assertEqual(repr(picture), repr(other.picture()))
                self.assertTrue(is_forest(picture))
                self.assertEqual(one.available(), other.available())
                self.assertEqual((one.place, one.many, one.outcome), ((other.name, other.at), other.done, other.outcome))
                before = one.copy() if rng.random() < 0.05 else None
                self.assertEqual(one.step(), other.step())
                if before is not None:
                    self.assertEqual(before.picture(), picture)
                    self.assertEqual(before.step(), one.outcome)
                    self.assertTrue(before == one)
                if one.outcome is not None:
                    break

    def test_errors(self):
        rows = [("f", [("return", 2)])] + REST
        one = [row([1]), row([2]), 5, True]
        calls = ((Machine, ()), (run, (None,)))
        for function, rest in calls:
            for odd in ODD:
                if odd != ("program", [], []):
                    self.refused(function, InvalidProgram, 0, odd, None, None, None, None, *rest)
                self.refused(function, InvalidRows, 1, PROGRAM, odd, None, None, None, *rest)
                self.refused(function, InvalidName, 2, PROGRAM, rows, odd, None, None, *rest)
                self.refused(function, InvalidList, 3, PROGRAM, rows, "f", odd, None, *rest)
                if odd not in (5,) or isinstance(odd, bool):
                    self.refused(function, InvalidNumber, 4, PROGRAM, rows, "f", one, odd, *rest)
            for cells in (1, 50001, -1, True, "2", 2.0):
                self.refused(function, InvalidNumber, 4, PROGRAM, rows, "f", one, cells, *rest)
            for value in (rows[:3], rows[::-1], tuple(rows), rows + rows[:1]):
                self.refused(function, InvalidRows, 1, PROGRAM, value, None, None, None, *rest)
            for value in (one[:3], one + [1], tuple(one), one[::-1], [1, 2, 3, 4]):
                self.refused(function, InvalidList, 3, PROGRAM, rows, "f", value, None, *rest)
        machine = Machine(PROGRAM, rows, "f", one, 2)
        self.assertEqual(len(cells_of(Machine(PROGRAM, rows, "f", one, 50000))), 50000)
        for odd in (-1, 1000001, True, False, None, "1", [1], (1,), 10 ** 29):
            self.refused(run, InvalidNumber, 5, PROGRAM, rows, "f", one, 2, odd)
            self.refused(machine.run, InvalidNumber, 0, odd)
        self.assertEqual(machine.many, 0)
        machine.step()
        self.refused(machine.run, InvalidNumber, 0, -1)


if __name__ == "__main__":
    unittest.main()
