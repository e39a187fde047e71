"""[37]: steps by their numbers, and the names that are alive."""

import unittest

from cellbills.checker import places_of, step_at
from cellbills.errors import InvalidName, InvalidProgram
from cellbills.live import alive, how_many_steps
from cellbills.names import free_names
from cellbills.reader import read_text
from tests.checks import Checks
from tests.list_programs import list_program
from tests.plain_pairing import Numbered, plain_alive
from tests.samples import ODD, random_program
from tests.test_reading import PROGRAM

KINDS = "kind list = nil[] | cons[num, list] calls step = (num) to num\n"


class LiveTest(Checks, unittest.TestCase):

    def alive(self, text):
        program = read_text(KINDS + text)
        told = self.told(alive, program, "f")
        self.assertEqual(self.told(how_many_steps, program, "f"), len(told))
        self.assertEqual(told, plain_alive([own for own in program[2] if own[0] == "f"][0]))
        return [" ".join(names) for names in told]

    def test_each_sort_of_step(self):
        self.assertEqual(self.alive("fun f(n: num): num = let a = 1; let b = yes; let c = n + a; c"),
                         ["n", "a n", "a n", "c"])
        self.assertEqual(self.alive("fun f(n: num, l: list): num = let x = cons[n, l]; drop x; n"), ["l n", "n x", "n"])
        self.assertEqual(self.alive("fun f(n: num, l: list): num = match l { nil[]: n cons[h, t]: drop t; h }"),
                         ["l n", "n", "h t", "h"])
        self.assertEqual(self.alive("fun f(n: num, m: num): num = let r = f(n, m); let s = f(r, m); go f(s, n)"),
                         ["m n", "m n r", "n s"])
        self.assertEqual(self.alive("fun f(n: num, k: num): num = let g = keep step h(n); let r = use g(k); raise r "
                                    "fun h(a: num, b: num): num = a"), ["k n", "g k", "r"])
        self.assertEqual(self.alive("fun f(n: num, g: step): num = go use g(n)"), ["g n"])
        self.assertEqual(self.alive("fun f(n: num, l: list): num = try x = f(n, l) then x + n catch e then raise e"),
                         ["l n", "n x", "a", "e"])

    def test_ways_front_first(self):
        told = self.alive("""fun f(c: flag, n: num, l: list): num = if c then match l { nil[]: n cons[h, t]: drop t; h }
            else try x = f(c, n, l) then let y = 1; y catch e then let z = 2; z + e""")
        self.assertEqual(told, ["c l n", "l n", "n", "h t", "h", "c l n", "", "y", "e", "e z", "a"])

    def test_alive_on_one_way_alone(self):
        self.assertEqual(self.alive("fun f(c: flag, n: num): num = let m = 1; if c then n else m"),
                         ["c n", "c m n", "n", "m"])

    def test_names_that_no_step_uses(self):
        # Parameters, and what is bound and not used, are alive nowhere.
        self.assertEqual(self.alive("fun f(a: num, n: num, b: flag): num = let m = 1; let k = 2; n"), ["n"] * 3)
        self.assertEqual(self.alive("fun f(a: num): num = let m = 1; m"), ["", "m"])
        self.assertEqual(self.alive("fun f(): list = let x = nil[]; x"), ["", "x"])
        self.assertEqual(self.alive("fun f(n: num, l: list): num = match l { nil[]: n cons[h, t]: drop t; n }"),
                         ["l n", "n", "n t", "n"])

    def test_a_single_step(self):
        self.assertEqual(self.alive("fun f(b: num, a: num): num = a"), ["a"])
        self.assertEqual(self.alive("fun f(b: num, a: num): num = go f(b, a)"), ["a b"])

    def test_names_used_at_the_very_last(self):
        told = self.alive("fun f(n: num): num = " + "".join([f"let x{at} = {at}; " for at in range(60)]) + "n")
        self.assertEqual(told, ["n"] * 61)

    def test_against_others(self):
        for seed in range(15):
            for program in (random_program(seed), list_program(seed)):
                for function in program[2]:
                    told = alive(program, function[0])
                    self.assertEqual(told, plain_alive(function))
                    self.assertEqual(how_many_steps(program, function[0]), len(Numbered(function[3]).steps))
                    places = places_of(program, function[0])
                    self.assertEqual(told, [free_names(step_at(program, place)) for place in places])

    def test_errors(self):
        for function in (how_many_steps, alive):
            for odd in ODD:
                if odd != ("program", [], []):
                    self.refused(function, InvalidProgram, 0, odd, None)
                self.refused(function, InvalidName, 1, PROGRAM, odd)


if __name__ == "__main__":
    unittest.main()
