"""[41]: bodies made to rows."""

import random
import unittest

from cellbills.codegen import code_of, code_with, listing
from cellbills.errors import InvalidName, InvalidPaper, InvalidProgram
from cellbills.homes import homes
from cellbills.pairing import is_pairing, pairing
from cellbills.reader import read_text
from cellbills.rows import is_listing
from tests.checks import Checks
from tests.list_programs import list_program
from tests.plain_code import PlainCode
from tests.samples import EMPTY, ODD, random_program
from tests.test_pairing import KINDS
from tests.test_reading import PROGRAM


class CodegenTest(Checks, unittest.TestCase):

    def check(self, text, *rows, pairs=None, told=None):
        """Check the rows of f, as it is or by other pairs and homes."""
        program = read_text(KINDS + text)
        if pairs is None:
            self.assertEqual(self.told(code_of, program, "f"), list(rows))
            pairs, told = pairing(program, "f"), homes(program, "f", pairing(program, "f"))
        self.assertEqual(self.told(code_with, program, "f", pairs, told), list(rows))
        return program

    def test_plain_steps(self):
        self.check("fun f(n: num, c: flag): num = let a = -5; let b = no; let d = n + a; let e = not b; if e then d else raise n",
                   ("num", 1, -5), ("flag", 2, False), ("deed", 1, "plus", (0, 1)), ("deed", 2, "not", (2,)),
                   ("test", 2, 6), ("return", 1), ("raise", 0))
        self.check("""fun f(x: list, n: num): list = drop x; let g = keep step add(n); drop g; let h = keep turn turns();
            drop h; let t = leaf[yes]; drop t; cons[n, nil[]]""",
                   ("drop", 0), ("build", 0, "add", (1,)), ("drop", 0), ("build", 0, "turns", ()), ("drop", 0),
                   ("flag", 0, True), ("build", 0, "leaf", (0,)), ("drop", 0), ("build", 0, "nil", ()),
                   ("build", 0, "cons", (1, 0)), ("return", 0))

    def test_takes(self):
        text = "fun f(x: list, n: num): num = match x { nil[]: n cons[h, t]: drop t; h }"
        self.check(text, ("take", 0, (("nil", (), 1), ("cons", (0, 1), 2))), ("return", 1), ("drop", 1), ("return", 0))
        text = "fun f(t: tree): num = match t { leaf[c]: if c then 1 else 2 fork[l, m, r]: drop l; drop m; drop r; 3 }"
        self.check(text, ("take", 0, (("leaf", (0,), 1), ("fork", (0, 1, 2), 6))), ("test", 0, 4), ("num", 0, 1),
                   ("return", 0), ("num", 0, 2), ("return", 0), ("drop", 0), ("drop", 1), ("drop", 2), ("num", 0, 3),
                   ("return", 0))

    def test_cells_given_back_and_filled(self):
        # On the way without parts there is no cell; behind no it is held longer.
        self.check("""fun f(x: list, c: flag, n: num): list = match x { nil[]: nil[] cons[h, t]:
            if c then let a = cons[h, t]; a else let b = n + n; drop t; cons[b, nil[]] }""",
                   ("part", 0, (("nil", (), 1), ("cons", (3, 4), 3))), ("build", 0, "nil", ()), ("return", 0),
                   ("test", 1, 6), ("refill", 0, 0, "cons", (3, 4)), ("return", 0), ("deed", 1, "plus", (2, 2)),
                   ("drop", 4), ("build", 2, "nil", ()), ("refill", 0, 0, "cons", (1, 2)), ("return", 0))
        # Given back where a test leads away from what would fill it.
        text = """fun f(x: list, c: flag): list = match x { nil[]: nil[] cons[h, t]:
            if c then cons[h, t] else t }"""
        self.check(text, ("part", 0, (("nil", (), 1), ("cons", (2, 3), 3))), ("build", 0, "nil", ()), ("return", 0),
                   ("test", 1, 6), ("refill", 0, 0, "cons", (2, 3)), ("return", 0), ("free", 0), ("return", 3))
        # Given back where another way of the take itself, with parts, fills nothing.
        text = "fun f(t: tree): tree = match t { leaf[c]: leaf[c] fork[l, m, r]: drop l; drop m; r }"
        self.check(text, ("part", 0, (("leaf", (1,), 1), ("fork", (1, 2, 3), 3))), ("refill", 0, 0, "leaf", (1,)),
                   ("return", 0), ("free", 0), ("drop", 1), ("drop", 2), ("return", 3))

    def test_several_cells_held(self):
        text = """fun f(x: list, y: list, c: flag): list = match x { nil[]: drop y; nil[] cons[h, t]: match y {
            nil[]: t cons[i, u]: drop u; if c then cons[i, t] else cons[h, cons[i, t]] } }"""
        self.check(text, ("part", 0, (("nil", (), 1), ("cons", (3, 4), 4))), ("drop", 1), ("build", 0, "nil", ()),
                   ("return", 0), ("part", 1, (("nil", (), 5), ("cons", (5, 6), 7))), ("free", 0), ("return", 4),
                   ("drop", 6), ("test", 2, 12), ("free", 0), ("refill", 0, 1, "cons", (5, 4)), ("return", 0),
                   ("refill", 1, 1, "cons", (5, 4)), ("refill", 0, 0, "cons", (3, 1)), ("return", 0))
        # Both come free at once, in the order of their takes, whatever their registers are.
        text = """fun f(x: list, y: list, c: flag): list = match x { nil[]: y cons[h, t]: match y { nil[]: t cons[i, u]:
            drop u; if c then cons[h, cons[i, t]] else t } }"""
        pairs = [(6, 0), (7, 2)]
        told = [("x", 0), ("y", 1), ("c", 2), ("h", 9), ("t", 8), ("i", 7), ("u", 6), ("a", 5), ("b", 39)]
        self.check(text, ("part", 0, (("nil", (), 1), ("cons", (9, 8), 2))), ("return", 1),
                   ("part", 1, (("nil", (), 3), ("cons", (7, 6), 5))), ("free", 0), ("return", 8), ("drop", 6),
                   ("test", 2, 10), ("refill", 5, 0, "cons", (7, 8)), ("refill", 39, 1, "cons", (9, 5)), ("return", 39),
                   ("free", 0), ("free", 1), ("return", 8), pairs=pairs, told=told)

        # The takes in order, though the first one made fills the cell of the last one.
        self.check(text, ("part", 0, (("nil", (), 1), ("cons", (9, 8), 2))), ("return", 1),
                   ("part", 1, (("nil", (), 3), ("cons", (7, 6), 5))), ("free", 0), ("return", 8), ("drop", 6),
                   ("test", 2, 10), ("refill", 5, 1, "cons", (7, 8)), ("refill", 39, 0, "cons", (9, 5)), ("return", 39),
                   ("free", 0), ("free", 1), ("return", 8), pairs=[(6, 2), (7, 0)], told=told)

    def test_goes(self):
        self.check("fun f(): num = go f()", ("jump", "f"))
        self.check("fun f(n: num): num = go f(n)", ("jump", "f"))
        self.check("fun f(a: num, b: num, c: num): num = go f(b, c, a)",
                   ("move", 4, 0), ("move", 0, 1), ("move", 1, 2), ("move", 2, 4), ("jump", "f"))
        self.check("fun f(a: num, b: num, c: num): num = go f(c, c, c)", ("move", 0, 2), ("move", 1, 0), ("jump", "f"))
        rows = [("move", 9, 0), ("move", 0, 1), ("move", 1, 9), ("move", 9, 2), ("move", 2, 3), ("move", 3, 9),
                ("move", 9, 4), ("move", 4, 5), ("move", 5, 9), ("move", 9, 6), ("move", 6, 7), ("move", 7, 9)]
        self.check("""fun f(a: num, b: num, c: num, d: num, e: num, g: num, h: num, i: num): num =
            go f(b, a, d, c, g, e, i, h)""", *rows, ("jump", "f"))
        self.check("fun f(g: turn, x: list, y: list): list = go use g(y, x)",
                   ("move", 4, 0), ("move", 0, 2), ("move", 2, 4), ("enter", 2))
        program = read_text("calls give = () to num fun f(g: give): num = go use g()")
        self.assertEqual(code_of(program, "f"), [("enter", 0)])

    def test_calls(self):
        self.check("fun f(a: num, b: num): num = let k = 3; let r = f(b, a); let s = f(k, r); s + k",
                   ("num", 2, 3), ("push", 0, 6, (2,)), ("move", 3, 0), ("move", 0, 1), ("move", 1, 3), ("jump", "f"),
                   ("push", 0, 10, (2,)), ("move", 1, 0), ("move", 0, 2), ("jump", "f"), ("deed", 0, "plus", (0, 2)),
                   ("return", 0))
        self.check("fun f(): num = let r = f(); r", ("push", 0, 2, ()), ("jump", "f"), ("return", 0))
        self.check("fun f(g: turn, x: list, y: list, n: num): list = let r = use g(y, x); cons[n, r]",
                   ("push", 0, 5, (3,)), ("move", 4, 0), ("move", 0, 2), ("move", 2, 4), ("enter", 2),
                   ("build", 0, "cons", (3, 0)), ("return", 0))
        self.check("fun f(x: list, n: num): num = try r = f(nil[], n) then drop x; r catch e then drop x; e + n",
                   ("build", 2, "nil", ()), ("handle", 2, 4, 2, 6, (0, 1)), ("move", 0, 2), ("jump", "f"), ("drop", 0),
                   ("return", 2), ("drop", 0), ("deed", 0, "plus", (2, 1)), ("return", 0))
        self.check("fun f(n: num): num = try r = f(n) then r catch e then e",
                   ("handle", 0, 2, 0, 3, ()), ("jump", "f"), ("return", 0), ("return", 0))

    def test_kept_registers_from_the_least_on(self):
        told = [("a", 0), ("b", 1), ("x", 30), ("y", 7), ("r", 2), ("c", 3), ("d", 4), ("e", 5)]
        self.check("fun f(a: num, b: num): num = let x = 1; let y = 2; let r = f(a, x); let c = r + x; let d = c + y; d + b",
                   ("num", 30, 1), ("num", 7, 2), ("push", 2, 5, (1, 7, 30)), ("move", 1, 30), ("jump", "f"),
                   ("deed", 3, "plus", (2, 30)), ("deed", 4, "plus", (3, 7)), ("deed", 5, "plus", (4, 1)), ("return", 5),
                   pairs=[], told=told)

    def test_spare(self):
        # One more than the greatest home, though no step of the ring has it.
        text = "fun f(a: num, b: num): num = let x = a + b; let y = x + x; go f(b, a)"
        told = [("a", 0), ("b", 1), ("x", 39), ("y", 2)]
        self.check(text, ("deed", 39, "plus", (0, 1)), ("deed", 2, "plus", (39, 39)), ("move", 40, 0), ("move", 0, 1),
                   ("move", 1, 40), ("jump", "f"), pairs=[], told=told)
        # One more than there are tuples, where all homes are less.
        self.check("fun f(a: num, b: num): num = go g6(b, a, a, a, a, a) "
                   "fun g6(a: num, b: num, c: num, d: num, e: num, g: num): num = a",
                   ("move", 2, 0), ("move", 0, 1), ("move", 1, 2), ("move", 3, 1), ("move", 4, 3), ("move", 5, 4),
                   ("jump", "g6"))
        self.check("fun f(a: num, b: num): num = go g3(b, a, b) fun g3(a: num, b: num, c: num): num = a",
                   ("move", 2, 1), ("move", 1, 0), ("move", 0, 2), ("jump", "g3"))
        self.check("fun f(a: num, b: num): num = go g3(b, a, 3) fun g3(a: num, b: num, c: num): num = a", ("num", 2, 3), ("move", 4, 0), ("move", 0, 1), ("move", 1, 4), ("jump", "g3"))

    def test_listings(self):
        self.assertEqual(self.told(listing, EMPTY), [])
        told = self.told(listing, PROGRAM)
        self.assertEqual([name for name, _ in told], [function[0] for function in PROGRAM[2]])
        for name, rows in told:
            self.assertEqual(rows, code_of(PROGRAM, name))
        self.assertTrue(is_listing(PROGRAM, told))
        many = ("program", [], [(f"f{number}", [], "num", ("go", f"f{39 - number}", ())) for number in range(40)])
        self.assertEqual(self.told(listing, many), [(f"f{number}", [("jump", f"f{39 - number}")]) for number in range(40)])

    def test_against_another_way(self):
        for seed in range(40):
            rng = random.Random(seed)
            program = list_program(seed, 3, 7) if seed % 2 else random_program(seed)
            for function in program[2]:
                name = function[0]
                full = pairing(program, name)
                plain = PlainCode(function, full)
                self.assertEqual(code_of(program, name), plain.code(plain.homes(min))[0])
                pairs = [pair for pair in full if rng.random() < 0.6]
                plain = PlainCode(function, pairs if is_pairing(program, name, pairs) else [])
                told = plain.homes(rng.choice)
                self.assertEqual(code_with(program, name, plain.pairs, told), plain.code(told)[0])

    def test_errors(self):
        right = homes(PROGRAM, "turn", [])
        for odd in ODD:
            if odd != EMPTY:
                self.refused(code_of, InvalidProgram, 0, odd, None)
                self.refused(listing, InvalidProgram, 0, odd)
                self.refused(code_with, InvalidProgram, 0, odd, None, None, None)
            self.refused(code_of, InvalidName, 1, PROGRAM, odd)
            self.refused(code_with, InvalidName, 1, PROGRAM, odd, None, None)
            if odd != []:
                self.refused(code_with, InvalidPaper, 2, PROGRAM, "turn", odd, None)
            self.refused(code_with, InvalidPaper, 3, PROGRAM, "turn", [], odd)
        self.refused(code_with, InvalidPaper, 2, PROGRAM, "turn", [(2, 1)], None)
        self.refused(code_with, InvalidPaper, 3, PROGRAM, "turn", [(2, 0)], right)
        self.refused(code_with, InvalidPaper, 3, PROGRAM, "turn", [], right[:-1])
        self.assertEqual(len(code_with(PROGRAM, "turn", [], right)), 6)


if __name__ == "__main__":
    unittest.main()
