"""[39]: crowds and homes."""

import random
import unittest

from cellbills.errors import InvalidName, InvalidPaper, InvalidProgram
from cellbills.homes import homes, is_homes, most_at_once
from cellbills.pairing import pairing
from cellbills.reader import read_text
from tests.checks import Checks, spoilt
from tests.list_programs import list_program
from tests.plain_code import PlainCode
from tests.plain_pairing import Numbered
from tests.samples import ODD, random_program
from tests.test_pairing import KINDS
from tests.test_reading import PROGRAM


def function_of(program, name):
    return next(own for own in program[2] if own[0] == name)


class HomesTest(Checks, unittest.TestCase):

    def check(self, text, pairs, wanted, most):
        """Check the homes of f, told as a text, and the crowd with the most names."""
        program = read_text(KINDS + text)
        told = self.told(homes, program, "f", pairs)
        self.assertEqual(" ".join(f"{name}{number}" for name, number in told), wanted)
        self.assertEqual(" ".join(self.told(most_at_once, program, "f", pairs)), most)
        self.is_told(True, is_homes, program, "f", pairs, told)
        plain = PlainCode(function_of(program, "f"), pairs)
        self.assertEqual(told, plain.homes(min))
        self.assertEqual(max(plain.crowds(), key=len), set(most.split()))
        self.assertEqual(len({number for _, number in told}), len(most.split()))
        return program

    def test_plain_steps(self):
        self.check("fun f(): num = let a = 1; let b = 2; a + b", [], "a0 b1 c0", "a b")
        self.check("fun f(n: num, m: num): num = let a = n + m; let b = a + m; b", [], "n0 m1 a0 b0", "m n")
        # What is bound and not used needs a register at the step behind it alone.
        self.check("fun f(n: num): num = let a = 1; let b = 2; let c = 3; n", [], "n0 a1 b1 c1", "a n")
        # Parameters that no step uses.
        self.check("fun f(a: num, b: num, c: num): num = let x = c; let y = 1; let z = 2; y", [],
                   "a0 b1 c2 y0 z1", "a b c")
        self.check("fun f(): list = nil[]", [], "a0", "a")
        self.check("fun f(): num = go f()", [], "", "")

    def test_ways(self):
        text = "fun f(x: list, y: list): list = match x { nil[]: y cons[h, t]: drop y; drop t; cons[h, nil[]] }"
        self.check(text, [], "x0 y1 h0 t2 a1 b0", "h t y")
        # The cell of x is held up to the step that fills it.
        self.check(text, [(5, 0)], "x0 y1 h2 t3 a1 b0", "h t x y")
        self.check("fun f(c: flag, n: num): num = if c then let a = 1; let b = 2; a + b else let d = 3; d + n", [],
                   "c0 n1 a0 b1 e0 d0 g0", "c n")

    def test_the_name_that_a_taken_takes(self):
        # Behind the way without its thing the cell comes free at once: it needs its register there.
        text = """fun f(t: tree, n: num): tree = match t { leaf[c]: leaf[c] fork[l, m, r]: drop l; drop m; r }"""
        self.check(text, [(1, 0)], "t0 n1 c1 a0 l1 m2 r3", "l m r t")
        self.check(text, [], "t0 n1 c0 a0 l0 m1 r2", "l m r")
        # A way without parts leaves no cell.
        self.check("fun f(x: list, n: num): list = match x { nil[]: cons[n, nil[]] cons[h, t]: cons[n, t] }", [(4, 0)],
                   "x0 n1 a0 b0 h2 t3 c0", "h n t x")

    def test_cells_held_on_one_way(self):
        text = """fun f(x: list, c: flag): list = match x { nil[]: nil[] cons[h, t]:
            if c then let a = cons[h, t]; a else let b = t; b }"""
        self.check(text, [(4, 0)], "x0 c1 d0 h2 t3 a0", "c h t x")

    def test_what_a_try_keeps(self):
        text = """fun f(n: num, m: num, k: num): num = try x = f(n, m, k) then let a = x + n; a
            catch e then let b = e + m; b"""
        # At each end all names that are kept need their registers, those of the other end, too.
        self.check(text, [], "n0 m1 k2 x2 a0 e2 b0", "k m n")
        text = """fun f(n: num, m: num): num = try x = f(n, m) then let a = x + n; a catch e then let b = e + m; b"""
        self.check(text, [], "n0 m1 x2 a0 e2 b0", "m n x")
        text = "fun f(n: num, m: num): num = let r = f(n, m); r + n"
        self.check(text, [], "n0 m1 r1 a0", "m n")
        text = "fun f(n: num, m: num): num = let g = keep step add(n); let r = use g(m); r + m"
        self.check(text, [], "n0 m1 g0 r0 a0", "m n")

    def test_the_first_of_several_crowds(self):
        self.check("fun f(a: num, b: num): num = let c = a; let d = 1; c + d", [], "a0 b1 d1 e0", "a b")
        self.check("fun f(a: num): num = let b = a + a; let c = a + b; let d = b + c; d", [], "a0 b1 c0 d0", "a b")

    def test_wrong_homes(self):
        text = "fun f(x: list, y: list, n: num): list = match x { nil[]: y cons[h, t]: go f(t, cons[h, y], n) }"
        program = read_text(KINDS + text)
        for pairs in ([], [(2, 0)]):
            told = homes(program, "f", pairs)
            for value in (told[:-1], told + told[-1:], told[1:], told[::-1], told[:3] + told[4:2:-1] + told[5:], [],
                          [(name, number + 1) for name, number in told], tuple(told), dict(told),
                          [list(pair) for pair in told], [(name, str(number)) for name, number in told],
                          [("x", False)] + told[1:], [("x", 0), ("y", True)] + told[2:], told[:-1] + [("a", 40)],
                          told[:-1] + [("a", -1)], told[:-1] + [("a", 10 ** 29)], told[:-1] + [("b", 0)],
                          told[:3] + [("h", 1)] + told[4:], told[:3] + [("h", 2)] + told[4:]):
                self.is_told(False, is_homes, program, "f", pairs, value)
            self.is_told(True, is_homes, program, "f", pairs, told[:-1] + [("a", 39)])
            self.is_told(True, is_homes, program, "f", pairs, told[:3] + [("h", 30), ("t", 31), ("a", 30)])
            for odd in ODD:
                self.is_told(False, is_homes, program, "f", pairs, odd)
                self.is_told(False, is_homes, program, "f", pairs, [odd] * 6)
            for value in spoilt(told, random.Random(1)):
                self.assertIn(is_homes(program, "f", pairs, value), (True, False))
        # Where no cell is held, x has no register behind the take.
        told = [("x", 0), ("y", 1), ("n", 2), ("h", 0), ("t", 3), ("a", 0)]
        self.is_told(True, is_homes, program, "f", [], told)
        self.is_told(False, is_homes, program, "f", [(2, 0)], told)

    def test_against_another_way(self):
        for seed in range(40):
            rng = random.Random(seed)
            program = list_program(seed, 3, 7) if seed % 2 else random_program(seed)
            for function in program[2]:
                name = function[0]
                body = Numbered(function[3])
                full = pairing(program, name)
                rights = [pairs for pairs in (full, [], [pair for pair in full if rng.random() < 0.6]) if body.is_right(pairs)]
                for pairs in rights:
                    plain = PlainCode(function, pairs)
                    told = homes(program, name, pairs)
                    self.assertEqual(told, plain.homes(min))
                    self.assertEqual(set(most_at_once(program, name, pairs)), max(plain.crowds(), key=len))
                    used = max([number for _, number in told], default=-1) + 1
                    self.assertEqual(used, max(map(len, plain.crowds())))
                    others = plain.homes(rng.choice)
                    self.assertTrue(is_homes(program, name, pairs, others))
                    for _ in range(4):
                        others = [(own, number if rng.random() < 0.8 else rng.randrange(6)) for own, number in told]
                        self.assertIs(is_homes(program, name, pairs, others), plain.are_homes(others))

    def test_errors(self):
        for function, rest in ((homes, ()), (most_at_once, ()), (is_homes, (None,))):
            for odd in ODD:
                if odd != ("program", [], []):
                    self.refused(function, InvalidProgram, 0, odd, None, None, *rest)
                self.refused(function, InvalidName, 1, PROGRAM, odd, None, *rest)
                if odd != []:
                    self.refused(function, InvalidPaper, 2, PROGRAM, "turn", odd, *rest)
            for pairs in ([(2, 1)], [(2, 0), (2, 0)], ((2, 0),), [(0, 2)]):
                self.refused(function, InvalidPaper, 2, PROGRAM, "turn", pairs, *rest)


if __name__ == "__main__":
    unittest.main()
