"""[24], [25]: the unknowns and the inequalities of a program."""

import unittest

from cellbills.checker import first_wrong
from cellbills.errors import InvalidProgram
from cellbills.reader import read_text
from cellbills.rules import inequalities, unknowns
from tests.checks import Checks
from tests.list_programs import list_program
from tests.plain_rules import plain_inequalities, plain_unknowns
from tests.samples import EMPTY, KINDS, LISTS, ODD, random_program

KIND_TEXT = """
kind list = nil[] | cons[num, list]
kind tree = leaf[flag] | fork[tree, list, tree] | hold[step]
kind pair = two[list, list]
calls step = (num) to num
calls join = (list, num) to list
"""


class RulesTest(Checks, unittest.TestCase):

    def program(self, text, kinds=KIND_TEXT):
        told = read_text(kinds + text)
        self.assertIsNone(first_wrong(told))
        return told

    def rows(self, text, name="f"):
        """Return the inequalities of a function, with names of unknowns without its own name."""
        program = self.program(text)
        self.assertEqual(self.told(inequalities, program), plain_inequalities(program))
        self.assertEqual(self.told(unknowns, program), plain_unknowns(program))
        number = [function[0] for function in program[2]].index(name)
        names = [" ".join([str(part) for part in own[1:]]) for own in unknowns(program)]
        found = []
        for place, counts, least in inequalities(program):
            if place[1] == number:
                told = {names[at]: often for at, often in counts}
                self.assertEqual(len(told), len(counts))
                found.append((place[3:], told, least))
        return found


class UnknownsTest(RulesTest):

    def test_signatures(self):
        program = self.program("fun f(a: num, b: list, c: flag, d: pair): num = drop b; drop d; a")
        start = [own for own in unknowns(program) if own[1] == "f"]
        self.assertEqual(start, [("function", "f", "argument", 1, "nil"), ("function", "f", "argument", 1, "cons"),
                                 ("function", "f", "argument", 3, "nil"), ("function", "f", "argument", 3, "cons"),
                                 ("function", "f", "argument", 3, "two"), ("function", "f", "wants"),
                                 ("function", "f", "leaves"), ("function", "f", "fault")])
        self.assertEqual(unknowns(program), plain_unknowns(program))

    def test_calls_kinds_first(self):
        program = self.program("fun f(): num = 1")
        self.assertEqual(self.told(unknowns, program), [
            ("calls", "step", "wants"), ("calls", "step", "leaves"), ("calls", "step", "fault"),
            ("calls", "join", "argument", 0, "nil"), ("calls", "join", "argument", 0, "cons"),
            ("calls", "join", "answer", "nil"), ("calls", "join", "answer", "cons"),
            ("calls", "join", "wants"), ("calls", "join", "leaves"), ("calls", "join", "fault"),
            ("function", "f", "wants"), ("function", "f", "leaves"), ("function", "f", "fault")])

    def test_makes_in_all_ways(self):
        program = self.program("""
            fun g(n: num): num = n
            fun f(c: flag, l: list, n: num): list =
              if c then match l { nil[]: nil[] cons[h, t]: cons[h, cons[n, t]] }
              else try x = g(n) then cons[x, l] catch e then cons[e, l]""")
        makes = [own[1] for own in unknowns(program) if own[0] == "make" and own[2] == "nil"]
        self.assertEqual(makes, [(1, 1, 0, 0, 0), (1, 1, 0, 0, 1), (1, 1, 0, 0, 1, 0), (1, 1, 0, 1, 0), (1, 1, 0, 1, 1)])
        self.assertEqual(unknowns(program), plain_unknowns(program))

    def test_the_order_of_constructors(self):
        # From a one comes to c, then to b: they stand as declared all the same.
        kinds = "kind c = c1[b] | c2[] kind b = b1[a] kind a = a1[c] | a2[num] kind d = d1[d] | d2[a] kind e = e1[]"
        program = self.program("fun f(x: a, y: b, z: d, w: e): a = drop y; drop z; drop w; x", kinds)
        told = [own[3:] for own in unknowns(program) if own[2] == "argument"]
        ring = ["c1", "c2", "b1", "a1", "a2"]
        self.assertEqual(told, [(0, own) for own in ring] + [(1, own) for own in ring]
                         + [(2, own) for own in ring + ["d1", "d2"]] + [(3, "e1")])
        self.assertEqual(unknowns(program), plain_unknowns(program))
        self.assertEqual(inequalities(program), plain_inequalities(program))

    def test_what_no_function_names(self):
        self.assertEqual(unknowns(EMPTY), [])
        self.assertEqual(unknowns(("program", LISTS, [])), [])
        self.assertEqual(inequalities(("program", KINDS, [])), [])
        self.assertEqual(len(unknowns(("program", KINDS, []))), 3 + 7 + 8)
        # What a calls kind wants comes to more than the parts of any argument.
        self.assertEqual(unknowns(("program", KINDS, [])), plain_unknowns(("program", KINDS, [])))


class InequalitiesTest(RulesTest):

    def test_plain_steps_and_end(self):
        self.assertEqual(self.rows("fun f(n: num): num = let m = 2; let c = n < m; if c then n + m else n"),
                         [((0, 0, 0, 0), {"f wants": 1, "f leaves": -1}, 0), ((0, 0, 1), {"f wants": 1, "f leaves": -1}, 0)])
        self.assertEqual(self.rows("fun f(n: num, l: list): num = drop l; raise n"),
                         [((0,), {"f wants": 1, "f fault": -1}, 0)])
        self.assertEqual(self.rows("fun f(n: num, l: list): list = l"),
                         [((), {"f argument 1 nil": 1, "f answer nil": -1}, 0),
                          ((), {"f argument 1 cons": 1, "f answer cons": -1}, 0), ((), {"f wants": 1, "f leaves": -1}, 0)])
        self.assertEqual(self.rows("fun f(g: step): step = g"), [((), {"f wants": 1, "f leaves": -1}, 0)])

    def test_make(self):
        make = "(1, 0, 0)"
        self.assertEqual(self.rows("fun f(n: num, l: list): list = let x = cons[n, l]; x"), [
            ((), {"f argument 1 nil": 1, make + " nil": -1}, 0), ((), {"f argument 1 cons": 1, make + " cons": -1}, 0),
            ((), {"f wants": 1, make + " cons": -1}, 1),
            ((0,), {make + " nil": 1, "f answer nil": -1}, 0), ((0,), {make + " cons": 1, "f answer cons": -1}, 0),
            ((0,), {"f wants": 1, make + " cons": -1, "f leaves": -1}, 1)])
        # Without parts it weighs nothing; two parts of one kind are handed one behind the other.
        self.assertEqual(self.rows("fun f(): list = nil[]")[0], ((), {"f wants": 1, make + " nil": -1}, 0))
        told = self.rows("fun f(a: list, b: list): pair = two[b, a]")[:5]
        self.assertEqual([list(row[1])[0] for row in told],
                         ["f argument 1 nil", "f argument 1 cons", "f argument 0 nil", "f argument 0 cons", "f wants"])
        self.assertEqual(told[4], ((), {"f wants": 1, make + " two": -1}, 1))

    def test_take(self):
        told = self.rows("""fun f(t: tree): tree = match t { leaf[c]: leaf[c] fork[l, m, r]: drop m; drop r; l
            hold[g]: hold[g] }""")
        self.assertEqual(told[0], ((0,), {"f wants": 1, "f argument 0 leaf": 1, "(1, 0, 0, 0) leaf": -1}, 0))
        fork = [row for row in told if row[0] == (1, 0, 0)]
        # l holds all rates of t's table, m those of the constructors of lists alone.
        self.assertEqual(fork[0][1], {"f argument 0 nil": 1, "f answer nil": -1})
        self.assertEqual(fork[-1], ((1, 0, 0), {"f wants": 1, "f argument 0 fork": 1, "f leaves": -1}, -1))
        told = self.rows("""fun f(t: tree): list = match t { leaf[c]: nil[] fork[l, m, r]: drop l; drop r; m
            hold[g]: drop g; nil[] }""")
        handed = [row[1] for row in told if row[0] == (1, 0, 0)]
        self.assertEqual(handed[:2], [{"f argument 0 nil": 1, "f answer nil": -1},
                                      {"f argument 0 cons": 1, "f answer cons": -1}])
        self.assertEqual(len(handed), 3)

    def test_call(self):
        text = "fun g(l: list, n: num): list = l fun f(n: num, l: list, k: num): num = let r = g(l, n); drop r; k + n"
        self.assertEqual(self.rows(text), [
            ((), {"f argument 1 nil": 1, "g argument 0 nil": -1}, 0),
            ((), {"f argument 1 cons": 1, "g argument 0 cons": -1}, 0),
            ((), {"f wants": 1, "g wants": -1}, 1),
            ((), {"f wants": 1, "g wants": -1, "g fault": 1, "f fault": -1}, 0),
            ((0, 0, 0), {"f wants": 1, "g wants": -1, "g leaves": 1, "f leaves": -1}, 0)])
        # Of itself: unknowns cancel, and stand as often as they come together.
        self.assertEqual(self.rows("fun f(n: num): num = let m = f(n); let r = f(m); r"), [
            ((), {}, 1), ((), {}, 0), ((0,), {"f wants": -1, "f leaves": 1}, 1),
            ((0,), {"f wants": -1, "f leaves": 1}, 0), ((0, 0), {"f wants": -1, "f leaves": 1}, 0)])
        told = self.rows("fun g(n: num): num = n fun f(n: num): num = let m = g(n); let r = g(m); let s = g(r); s")
        self.assertEqual(told[-2:], [((0, 0), {"f wants": 1, "g wants": -3, "g leaves": 2, "g fault": 1, "f fault": -1}, 0),
                                     ((0, 0, 0), {"f wants": 1, "g wants": -3, "g leaves": 3, "f leaves": -1}, 0)])

    def test_the_frame_of_a_call(self):
        text = "fun g(n: num): num = n fun f(a: num, b: num, c: num, d: num): num = let r = g(a); r + b + c + d"
        self.assertEqual(self.rows(text)[0], ((), {"f wants": 1, "g wants": -1}, 1))
        text = "fun g(n: num): num = n fun f(a: num, b: num, c: num, d: num): num = let r = g(a); r + a + b + c + d"
        self.assertEqual(self.rows(text)[0], ((), {"f wants": 1, "g wants": -1}, 2))

    def test_use(self):
        text = "fun f(g: join, l: list, n: num): list = let r = use g(l, n); cons[n, r]"
        told = self.rows(text)
        self.assertEqual(told[:4], [
            ((), {"f argument 1 nil": 1, "join argument 0 nil": -1}, 0),
            ((), {"f argument 1 cons": 1, "join argument 0 cons": -1}, 0),
            ((), {"f wants": 1, "join wants": -1}, 1),
            ((), {"f wants": 1, "join wants": -1, "join fault": 1, "f fault": -1}, 0)])
        self.assertEqual(told[4][1], {"join answer nil": 1, "(1, 0, 0, 0) nil": -1})

    def test_go(self):
        text = "fun g(l: list): list = l fun f(n: num, l: list): list = go g(l)"
        self.assertEqual(self.rows(text), [
            ((), {"f argument 1 nil": 1, "g argument 0 nil": -1}, 0),
            ((), {"f argument 1 cons": 1, "g argument 0 cons": -1}, 0),
            ((), {"f wants": 1, "g wants": -1}, 0),
            ((), {"g answer nil": 1, "f answer nil": -1}, 0), ((), {"g answer cons": 1, "f answer cons": -1}, 0),
            ((), {"f wants": 1, "g wants": -1, "g leaves": 1, "f leaves": -1}, 0),
            ((), {"f wants": 1, "g wants": -1, "g fault": 1, "f fault": -1}, 0)])
        self.assertEqual(self.rows("fun f(n: num, l: list): list = go f(n, l)"), [((), {}, 0)] * 7)
        self.assertEqual(self.rows("fun f(n: num, a: list, b: list): list = drop b; go f(n, a, nil[])")[1:4],
                         [((0, 0), {}, 0)] * 2 + [((0, 0), {"(1, 0, 0, 0) nil": 1, "f argument 2 nil": -1}, 0)])

    def test_usego(self):
        text = "fun f(g: join, l: list, n: num): list = go use g(l, n)"
        self.assertEqual(self.rows(text), [
            ((), {"f argument 1 nil": 1, "join argument 0 nil": -1}, 0),
            ((), {"f argument 1 cons": 1, "join argument 0 cons": -1}, 0),
            ((), {"f wants": 1, "join wants": -1}, 0),
            ((), {"join answer nil": 1, "f answer nil": -1}, 0), ((), {"join answer cons": 1, "f answer cons": -1}, 0),
            ((), {"f wants": 1, "join wants": -1, "join leaves": 1, "f leaves": -1}, 0),
            ((), {"f wants": 1, "join wants": -1, "join fault": 1, "f fault": -1}, 0)])
        self.assertEqual(self.rows("fun f(g: step, n: num): num = go use g(n)")[1:], [
            ((), {"f wants": 1, "step wants": -1, "step leaves": 1, "f leaves": -1}, 0),
            ((), {"f wants": 1, "step wants": -1, "step fault": 1, "f fault": -1}, 0)])

    def test_try(self):
        text = """fun g(l: list): list = l
            fun f(n: num, l: list): list = try x = g(l) then x catch e then raise e"""
        self.assertEqual(self.rows(text), [
            ((), {"f argument 1 nil": 1, "g argument 0 nil": -1}, 0),
            ((), {"f argument 1 cons": 1, "g argument 0 cons": -1}, 0),
            ((), {"f wants": 1, "g wants": -1}, 1),
            ((0,), {"g answer nil": 1, "f answer nil": -1}, 0), ((0,), {"g answer cons": 1, "f answer cons": -1}, 0),
            ((0,), {"f wants": 1, "g wants": -1, "g leaves": 1, "f leaves": -1}, 0),
            ((1,), {"f wants": 1, "g wants": -1, "g fault": 1, "f fault": -1}, 0)])
        text = """fun g(l: list): list = l fun f(n: num, l: list, k: list, m: list): num =
            try x = g(l) then drop x; drop k; drop m; n catch e then drop m; drop k; e"""
        self.assertEqual(self.rows(text)[2], ((), {"f wants": 1, "g wants": -1}, 2))

    def test_keep(self):
        text = """fun g(a: list, n: num, b: list, m: num): list = drop a; b
            fun f(a: list, n: num): join = keep join g(a, n)"""
        self.assertEqual(self.rows(text), [
            ((), {"f argument 0 nil": 1, "g argument 0 nil": -1}, 0),
            ((), {"f argument 0 cons": 1, "g argument 0 cons": -1}, 0),
            ((), {"join argument 0 nil": 1, "g argument 2 nil": -1}, 0),
            ((), {"join argument 0 cons": 1, "g argument 2 cons": -1}, 0),
            ((), {"g answer nil": 1, "join answer nil": -1}, 0), ((), {"g answer cons": 1, "join answer cons": -1}, 0),
            ((), {"join wants": 1, "g wants": -1}, 0), ((), {"g leaves": 1, "join leaves": -1}, 0),
            ((), {"g fault": 1, "join fault": -1}, 0), ((), {"f wants": 1}, 1),
            ((0,), {"f wants": 1, "f leaves": -1}, 1)])
        # Without arguments that are taken along it weighs nothing.
        text = "fun g(n: num): num = n fun f(): step = keep step g()"
        self.assertEqual(self.rows(text)[3:], [((), {"f wants": 1}, 0), ((0,), {"f wants": 1, "f leaves": -1}, 0)])

    def test_ends_in_all_sorts_of_functions(self):
        for text in ("fun f(n: num): num = n", "fun f(g: join): join = g", "fun f(p: pair): pair = p",
                     "fun f(n: num): pair = raise n", "fun f(n: num): join = raise n", "fun f(c: flag): flag = c"):
            program = self.program(text)
            self.assertEqual(inequalities(program), plain_inequalities(program))
        self.assertEqual(len(self.rows("fun f(p: pair): pair = p")), 4)

    def test_against_others(self):
        for seed in range(80):
            for program in (random_program(seed), list_program(seed), list_program(seed, 3, 9, 6)):
                self.assertEqual(unknowns(program), plain_unknowns(program))
                self.assertEqual(repr(inequalities(program)), repr(plain_inequalities(program)))

    def test_all_places_and_counts_are_in_order(self):
        for seed in range(20):
            program = random_program(seed)
            rows = self.told(inequalities, program)
            self.assertEqual([row[0] for row in rows], sorted(row[0] for row in rows))
            for _, counts, _ in rows:
                self.assertEqual(counts, sorted(counts))
                self.assertTrue(all(often for _, often in counts))
            self.told(unknowns, program)

    def test_errors(self):
        for odd in ODD:
            if odd != ("program", [], []):
                self.refused(unknowns, InvalidProgram, 0, odd)
                self.refused(inequalities, InvalidProgram, 0, odd)


if __name__ == "__main__":
    unittest.main()
