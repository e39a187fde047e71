"""[38]: pairings of things made with cells that were left."""

import random
import unittest

from cellbills.errors import InvalidName, InvalidPaper, InvalidProgram
from cellbills.pairing import is_full, is_pairing, pairing, saved
from cellbills.reader import read_text
from tests.checks import Checks, spoilt
from tests.list_programs import list_program
from tests.plain_pairing import Numbered
from tests.samples import ODD, random_program
from tests.test_reading import PROGRAM

KINDS = """
kind list = nil[] | cons[num, list]
kind tree = leaf[flag] | fork[tree, list, tree]
calls step = (num) to num
calls turn = (list, list) to list
fun id1(n: num): num = n
fun add(a: num, b: num): num = a + b
fun turns(x: list, y: list): list = match x { nil[]: y cons[h, t]: go turns(t, cons[h, y]) }
"""


class PairingTest(Checks, unittest.TestCase):

    def check(self, text, wanted, ways=None):
        """Check the pairing of f, all right pairings, which are full, and what each saves."""
        program = read_text(KINDS + text)
        told = self.told(pairing, program, "f")
        self.assertEqual(told, wanted)
        body = Numbered([own for own in program[2] if own[0] == "f"][0][3])
        self.assertEqual(told, body.chosen())
        rights = list(body.all_right())
        best = [max(own) for own in zip(*[body.counts(pairs) for pairs in rights])]
        if ways is not None:
            self.assertEqual(best, ways)
        for pairs in rights:
            self.is_told(True, is_pairing, program, "f", pairs)
            self.is_told(body.counts(pairs) == best, is_full, program, "f", pairs)
            counts = body.counts(pairs)
            self.assertEqual(self.told(saved, program, "f", pairs), (min(counts), max(counts)))
        self.assertIn(told, rights)
        self.is_told(True, is_full, program, "f", told)
        for made in range(len(body.steps)):
            for taken in range(len(body.steps)):
                self.is_told([(made, taken)] in rights, is_pairing, program, "f", [(made, taken)])
        return program

    def wrong(self, text, *values):
        program = read_text(KINDS + text)
        for value in values:
            self.is_told(False, is_pairing, program, "f", value)
            self.refused(is_full, InvalidPaper, 2, program, "f", value)
            self.refused(saved, InvalidPaper, 2, program, "f", value)

    def test_a_make_behind_a_take(self):
        text = "fun f(x: list, y: list): list = match x { nil[]: y cons[h, t]: go f(t, cons[h, y]) }"
        self.check(text, [(2, 0)], [0, 1])
        self.wrong(text, [(2, 1)], [(0, 2)], [(3, 0)], [(2, 2)], [(4, 0)], [(2, 0), (2, 0)], [(2, 4)], [(-2, 0)])

    def test_a_way_whose_constructor_has_no_parts(self):
        text = """fun f(x: list, n: num): list = match x { nil[]: let a = nil[]; let b = cons[n, a]; b
            cons[h, t]: t }"""
        self.check(text, [], [0, 0])
        self.wrong(text, [(2, 0)], [(1, 0)])

    def test_makes_without_parts(self):
        text = """fun f(x: list, n: num): list = match x { nil[]: x0() cons[h, t]: drop t; let a = nil[]; let b = nil[];
            drop b; let c = cons[n, a]; c } fun x0(): list = nil[]"""
        self.check(text, [(7, 0)], [0, 1])
        text = "fun f(x: list): list = match x { nil[]: nil[] cons[h, t]: drop t; let a = nil[]; a }"
        self.check(text, [], [0, 0])
        self.wrong(text, [(4, 0)])

    def test_keeps(self):
        text = """fun f(x: list): turn = match x { nil[]: raise0() cons[h, t]: drop t; let a = keep step add(h); drop a;
            keep turn turns() } fun raise0(): turn = let z = 0; raise z"""
        self.check(text, [(4, 0)], [0, 1])
        # Without arguments that are taken along it lies in no cell.
        self.wrong(text, [(6, 0)], [(4, 0), (6, 0)])

    def test_calls_between(self):
        for call in ("let r = id1(h);", "let g = keep step id1(); let r = use g(h);"):
            text = f"fun f(x: list): list = match x {{ nil[]: x0() cons[h, t]: {call} cons[r, t] }} fun x0(): list = nil[]"
            self.check(text, [], [0, 0])
        text = """fun f(x: list): list = match x { nil[]: nil[] cons[h, t]: try r = id1(h) then cons[r, t]
            catch e then cons[e, t] }"""
        self.check(text, [], [0, 0, 0])
        # Ahead of the call, and a take behind it.
        text = """fun f(x: list): list = match x { nil[]: nil[] cons[h, t]: let a = cons[h, t]; let r = id1(h);
            match a { nil[]: nil[] cons[i, u]: cons[r, u] } }"""
        self.check(text, [(3, 0), (8, 5)], [0, 1, 2])

    def test_one_taken_for_pairs_on_two_ways(self):
        text = """fun f(x: list, c: flag): list = match x { nil[]: nil[] cons[h, t]:
            if c then let a = cons[h, t]; a else let b = cons[h, t]; let d = cons[h, b]; d }"""
        self.check(text, [(4, 0), (6, 0)], [0, 1, 1])
        # Two for it on one way are wrong.
        self.wrong(text, [(6, 0), (7, 0)], [(4, 0), (6, 0), (7, 0)], [(7, 0)], [(6, 0), (4, 0)])
        text = """fun f(t: tree, n: num, y: list): list = match t { leaf[c]: cons[n, y] fork[l, m, r]: drop l; drop r; drop y;
            cons[n, m] }"""
        self.check(text, [(1, 0), (6, 0)], [1, 1])

    def test_several_takes(self):
        text = """fun f(x: list, y: list): list = match x { nil[]: y cons[h, t]: match y { nil[]: t cons[i, u]:
            drop u; let a = cons[i, t]; let b = cons[h, a]; let c = cons[h, b]; c } }"""
        # The nearest one first; the third one has none left.
        self.check(text, [(5, 2), (6, 0)], [0, 0, 2])
        self.wrong(text, [(6, 0)], [(7, 0)], [(5, 2), (7, 0)], [(5, 2), (6, 2)], [(6, 0), (5, 2)], [(5, 0), (6, 0)])
        program = read_text(KINDS + text)
        for pairs in ([], [(5, 0)], [(5, 2)], [(5, 0), (6, 2)], [(5, 2), (6, 0)]):
            self.is_told(True, is_pairing, program, "f", pairs)
            self.is_told(len(pairs) == 2, is_full, program, "f", pairs)
            self.assertEqual(saved(program, "f", pairs), (0, len(pairs)))

    def test_one_that_is_left_out_between(self):
        text = """fun f(x: list, y: list): list = match x { nil[]: y cons[h, t]: match y { nil[]: t cons[i, u]:
            drop u; let r = id1(i); let a = cons[r, t]; match a { nil[]: nil[] cons[j, v]: let b = cons[j, v]; cons[h, b] } } }"""
        self.check(text, [(10, 7)])
        # The one that stands between is in no pair: so the one behind can't have the take ahead of it.
        text = """fun f(x: list, c: flag): list = match x { nil[]: nil[] cons[h, t]: let a = cons[h, t]; let b = cons[h, a]; b }"""
        self.check(text, [(3, 0)], [0, 1])
        self.wrong(text, [(4, 0)])

    def test_full_on_every_way(self):
        text = """fun f(x: list, c: flag, n: num): list = match x { nil[]: cons[n, nil[]] cons[h, t]:
            if c then let a = cons[h, t]; a else if c then let b = cons[n, t]; b else t }"""
        program = self.check(text, [(5, 0), (8, 0)], [0, 1, 1, 0])
        self.is_told(False, is_full, program, "f", [(5, 0)])
        self.is_told(False, is_full, program, "f", [(8, 0)])
        self.assertEqual([saved(program, "f", pairs) for pairs in ([], [(5, 0)], [(5, 0), (8, 0)])], [(0, 0), (0, 1), (0, 1)])
        text = "fun f(t: tree): tree = match t { leaf[c]: leaf[c] fork[l, m, r]: fork[r, m, l] }"
        program = self.check(text, [(1, 0), (3, 0)], [1, 1])
        self.assertEqual(saved(program, "f", [(1, 0), (3, 0)]), (1, 1))

    def test_bodies_without_pairs(self):
        for text in ("fun f(n: num): num = n", "fun f(n: num): list = cons[n, nil[]]", "fun f(n: num): num = raise n"):
            program = self.check(text, [])
            self.assertEqual(saved(program, "f", []), (0, 0))
            self.is_told(True, is_full, program, "f", [])

    def test_wrong_forms(self):
        text = "fun f(x: list, y: list): list = match x { nil[]: y cons[h, t]: go f(t, cons[h, y]) }"
        self.wrong(text, ((2, 0),), [[2, 0]], [(2,)], [(2, 0, 0)], [(2, False)], [(2, "0")], [None], None, {2: 0}, "20",
                   [(10 ** 29, 0)], [(2, 10 ** 29)], [(True, 0)], (2, 0), [2, 0])
        program, rng = read_text(KINDS + text), random.Random(0)
        for odd in ODD:
            self.is_told(odd == [], is_pairing, program, "f", odd)
            self.is_told(False, is_pairing, program, "f", [odd])
        for value in spoilt([(2, 0)], rng):
            self.is_told(value in ([], [(2, 0)]) and repr(value) in ("[]", "[(2, 0)]"), is_pairing, program, "f", value)

    def test_against_all_there_are(self):
        many = 0
        for seed in range(60):
            for program in (random_program(seed), list_program(seed, 3, 8, 6)):
                rng = random.Random(seed)
                for name, _, _, step in program[2]:
                    body = Numbered(step)
                    told = pairing(program, name)
                    self.assertEqual(told, body.chosen())
                    if sum(body.is_made(at) for at in range(len(body.steps))) > 6:
                        continue
                    rights = list(body.all_right())
                    best = [max(own) for own in zip(*[body.counts(pairs) for pairs in rights])]
                    self.assertEqual(body.counts(told), best)
                    for pairs in rng.sample(rights, min(4, len(rights))):
                        self.assertTrue(is_pairing(program, name, pairs))
                        self.assertIs(is_full(program, name, pairs), body.counts(pairs) == best)
                        self.assertEqual(saved(program, name, pairs), (min(body.counts(pairs)), max(body.counts(pairs))))
                        many += 1
                    for _ in range(6):
                        pairs = sorted((rng.randrange(len(body.steps)), rng.randrange(len(body.steps)))
                                       for _ in range(rng.randrange(1, 3)))
                        self.assertIs(is_pairing(program, name, pairs), pairs in rights)
        self.assertGreater(many, 500)

    def test_errors(self):
        calls = ((pairing, ()), (is_pairing, (None,)), (is_full, (None,)), (saved, (None,)))
        for function, rest in calls:
            for odd in ODD:
                if odd != ("program", [], []):
                    self.refused(function, InvalidProgram, 0, odd, None, *rest)
                self.refused(function, InvalidName, 1, PROGRAM, odd, *rest)
        for odd in ODD:
            if odd != []:
                self.refused(is_full, InvalidPaper, 2, PROGRAM, "turn", odd)
                self.refused(saved, InvalidPaper, 2, PROGRAM, "turn", odd)


if __name__ == "__main__":
    unittest.main()
