"""[3]: what stands at the limits of rows and machines is answered within seconds."""

import time
import unittest

from cellbills.checker import is_program
from cellbills.codegen import code_of, code_with, listing
from cellbills.forest import is_forest
from cellbills.homes import homes, is_homes, most_at_once
from cellbills.machine import Machine, run
from cellbills.moves import moves
from cellbills.pairing import pairing
from cellbills.reader import read_text
from cellbills.rows import is_listing
from tests.samples import LISTS, NIL, row

SECONDS = 30


def long_body(many):
    """Return a body of so many steps: numbers, deeds, takes and makes."""
    step = ("end", "l")
    for number in reversed(range((many - 2) // 2)):
        step = ("num", f"a{number}", number, ("deed", f"b{number}", "plus", (f"a{number}", "n"), step))
    return ("num", "z", 0, step)


def turn_step(number, rest):
    """Return steps that take a list apart and make it again into the same cell."""
    make = ("make", f"l{number + 1}", "cons", (f"h{number}", f"t{number}"), rest)
    return ("take", f"l{number}", [
        ("nil", (), ("make", f"e{number}", "nil", (), ("end", f"e{number}"))), ("cons", (f"h{number}", f"t{number}"), make)])


def turns(many):
    step = ("end", f"l{many}")
    for number in reversed(range(many)):
        step = turn_step(number, step)
    return step


BIG = ("program", LISTS,
       [(f"a{number}", [("n", "num"), ("l", "list")], "list", long_body(400)) for number in range(20)]
       + [(f"t{number}", [("l0", "list")], "list", turns(99)) for number in range(20)])


class LimitsTest(unittest.TestCase):

    def within(self, function, *arguments):
        start = time.monotonic()
        told = function(*arguments)
        self.assertLess(time.monotonic() - start, SECONDS, function)
        return told

    def test_bodies_of_400_steps(self):
        self.assertTrue(is_program(BIG))
        rows = self.within(listing, BIG)
        self.assertEqual(len(rows), 40)
        self.assertTrue(self.within(is_listing, BIG, rows))
        pairs = pairing(BIG, "t3")
        self.assertEqual(len(pairs), 99)
        told = self.within(homes, BIG, "t3", pairs)
        self.assertEqual(len(told), 1 + 99 * 4)
        self.assertTrue(self.within(is_homes, BIG, "t3", pairs, told))
        self.assertEqual(self.within(most_at_once, BIG, "t3", pairs), ["h0", "l0", "t0"])
        self.assertEqual(self.within(code_with, BIG, "t3", pairs, told), self.within(code_of, BIG, "t3"))
        thing = row(range(100))
        self.assertEqual(self.within(run, BIG, rows, "t3", [thing], 100, 1000), (("value", thing), 0, 199))

    def test_many_rows(self):
        ways = (("nil", (), 29999), ("cons", (1, 2), 5))
        some = [("take", 0, ways), ("deed", 1, "plus", (1, 2)), ("build", 1, "cons", (1, 2)), ("push", 2, 4, (4, 5, 6)),
                ("move", 1, 2), ("jump", "t3")] * 5000
        rows = [(name, some) for name, _, _, _ in BIG[2]]
        self.assertTrue(self.within(is_listing, BIG, rows))
        self.within(Machine, BIG, rows, "t1", [NIL], 50000)

    def test_a_million_rows(self):
        program = read_text("""kind list = nil[] | cons[num, list]
            fun ever(n: num): num = go ever(n + 1)
            fun turn(l: list, n: num): list = match l { nil[]: nil[] cons[h, t]: go turn(cons[h + n, t], n) }
            fun fib(n: num): num = if n < 2 then n else fib(n - 1) + fib(n - 2)
            fun down(n: num): num = if n < 1 then n else let r = down(n - 1); r + n""")
        rows = listing(program)
        for name, arguments, cells in (("ever", [0], 0), ("turn", [row([1]), 1], 1), ("fib", [40], 50000)):
            told = self.within(run, program, rows, name, arguments, cells, 1000000)
            self.assertEqual((told[0], told[2]), (("on",), 1000000))
        self.assertEqual(self.within(run, program, rows, "down", [50000], 50000, 1000000)[0][0], "value")
        self.assertEqual(self.within(run, program, rows, "down", [50001], 50000, 1000000)[:2], (("want",), 0))

    def test_large_frames(self):
        program = read_text("fun f(n: num): num = n")
        slots = tuple(range(1, 41))
        rows = [("num", slot, slot) for slot in slots] + [("push", 0, 40, slots), ("return", 1)]
        self.assertEqual(self.within(run, program, [("f", rows)], "f", [0], 50000, 300000)[::2], (("on",), 300000))

    def test_machines_of_50000_cells(self):
        program = read_text("kind list = nil[] | cons[num, list] fun f(l: list, n: num): num = drop l; n")
        things = [row(range(199)), 5]
        machine = self.within(Machine, program, listing(program), "f", things, 50000)
        picture = self.within(machine.picture)
        self.assertTrue(self.within(is_forest, picture))
        self.assertEqual(self.within(machine.available), 50000 - 199)
        other = self.within(machine.copy)
        self.assertTrue(self.within(machine.__eq__, other))
        self.assertEqual(machine.run(9), ("value", 5))
        self.assertEqual(self.within(machine.available), 50000)

    def test_things_200_deep_and_20000_wide(self):
        kinds = [("choice", "w", [("four", ["w", "w", "w", "w"]), ("no1", [])])]
        program = ("program", kinds, [("f", [("p", "w")], "w", ("end", "p"))])
        thing = ("node", "no1", ())
        for _ in range(7):
            thing = ("node", "four", (thing, thing, thing, ("node", "no1", ())))
        for deep in range(150):
            thing = ("node", "four", (thing, ("node", "no1", ()), ("node", "no1", ()), ("node", "no1", ())))
        told = self.within(run, program, listing(program), "f", [thing], 50000, 9)
        self.assertEqual(told[0], ("value", thing))

    def test_moves(self):
        shuffle = [(number, 39 - number) for number in range(40)]
        for _ in range(100):
            self.assertEqual(len(self.within(moves, shuffle, 99)), 60)


if __name__ == "__main__":
    unittest.main()
