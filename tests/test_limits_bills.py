"""[3]: peaks, papers, bills and rewritings at the limits are answered within seconds."""

import time
import unittest

from cellbills.bills import bill_or_refusal, is_least, least_bill
from cellbills.checker import first_wrong
from cellbills.judged import bill_of, fund_counts, is_bill, is_refusal, signature
from cellbills.live import alive, how_many_steps
from cellbills.pairing import is_full, is_pairing, pairing, saved
from cellbills.papers import is_state, is_trace, next_state, trace
from cellbills.passes import is_passage, led_by_passage, passed, rewritings
from cellbills.peaks import narrowest, need, peak
from cellbills.reader import read_text
from cellbills.rewrites import is_rewriting, rewritten
from cellbills.rules import inequalities, unknowns
from cellbills.slacks import slacks
from tests.list_programs import list_program
from tests.samples import LISTS, NIL, row
from tests.test_limits import BIG, SECONDS

LIST = "kind list = nil[] | cons[num, list]\n"


def rebuilt(value):
    """Return an equal value that shares no tuple and no list with it, nor within itself."""
    if isinstance(value, tuple):
        return tuple([rebuilt(part) for part in value])
    return [rebuilt(part) for part in value] if isinstance(value, list) else value


def rings():
    """Return 12 kinds that come to one another round about, with 8 constructors each."""
    return [("choice", f"k{number}", [(f"c{number}x{at}", [f"k{(number + 1) % 12}"] * 4 if at else []) for at in range(8)])
            for number in range(12)]


def chain(steps, last):
    """Return a body of steps that lack their end, and a last one."""
    for step in reversed(steps):
        last = step + (last,)
    return last


def makes_and_drops(many, name):
    """Return a body that makes and drops, over the kinds of a ring."""
    steps = []
    for at in range(many // 6):
        leaves = tuple(f"y{at}x{part}" for part in range(4))
        steps += [("make", leaf, "c1x0", ()) for leaf in leaves]
        steps += [("make", f"z{at}", "c0x1", leaves), ("drop", f"z{at}")]
    return chain(steps, ("end", name))


class Limits(unittest.TestCase):

    def within(self, function, *arguments):
        start = time.monotonic()
        told = function(*arguments)
        self.assertLess(time.monotonic() - start, SECONDS, function.__name__)
        return told


class ReadingsTest(Limits):

    def test_peaks_of_100000_steps(self):
        program = read_text(LIST + """
            fun open(n: num): num = let r = open(n); r
            fun ever(n: num): num = go ever(n)
            fun wide(a: num, b: num, c: num, d: num, e: num, g: num, h: num, l: list): num =
              let r = wide(a, b, c, d, e, g, h, nil[]); drop l; r + a + b + c + d + e + g + h
            fun fall(n: num): num = if n < 1 then raise n else let l = cons[n, nil[]]; let r = fall(n - 1); drop l; r""")
        numbers = [1] * 7 + [NIL]
        self.assertEqual(self.within(peak, program, "open", [0], 100000), 100000)
        self.assertEqual(self.within(narrowest, program, "open", [0], 100000), (99999, (1, 0, 0)))
        self.assertEqual(self.within(peak, program, "wide", numbers, 100000), 50000 * 3)
        self.assertEqual(self.within(need, program, "wide", numbers, 100000), 50000 * 3)
        self.assertEqual(self.within(narrowest, program, "wide", numbers, 100000), (99999, (1, 2, 0, 0)))
        self.assertEqual(self.within(peak, program, "fall", [12499], 100000), 2 * 12499)
        self.assertIsNone(self.within(narrowest, program, "ever", [0], 100000))

    def check_trace(self, program, name, arguments, hand):
        states = self.within(trace, program, name, arguments, hand, 400)
        self.assertTrue(self.within(is_trace, program, states))
        others = rebuilt(states)
        self.assertTrue(self.within(is_trace, program, others))
        last = [state for state in others if len(state) == 4][-1]
        self.assertTrue(self.within(is_state, program, last))
        self.within(next_state, program, last)
        return states

    def test_traces_of_deep_things(self):
        program = read_text(LIST + """
            fun f(a: list, b: list, c: list, d: list, e: list, g: list, i: list, n: num): num = match a {
              nil[]: drop b; drop c; drop d; drop e; drop g; drop i; n
              cons[h, t]: let r = f(b, t, nil[], nil[], nil[], nil[], nil[], h);
                drop c; drop d; drop e; drop g; drop i; r + h }
            fun k(a: list, b: list, c: list, d: list, e: list, g: list, i: list, n: num): num = match a {
              nil[]: go k(b, c, d, e, g, i, nil[], n) cons[h, t]: go k(t, b, c, d, e, g, i, n + h) }""")
        arguments = [row([at % 2 for at in range(199)]) for _ in range(7)] + [0]
        self.assertEqual(len(self.check_trace(program, "f", arguments, 10 ** 6)), 401)
        self.assertEqual(len(self.check_trace(program, "k", arguments, 0)), 401)
        _, bill = bill_or_refusal(program)
        for name in ("f", "k"):
            hand = bill_of(program, bill, name, arguments)
            told = self.within(slacks, program, bill, name, arguments, hand, 400)
            self.assertEqual(len(told), 401)
            self.assertEqual(told[0][0] // told[0][1], 0)

    def test_traces_of_long_bodies(self):
        self.check_trace(BIG, "c0", [1, True], 10 ** 6)
        self.check_trace(BIG, "l0", [1, True, row(range(199))], 0)
        nums = [("num", f"x{at}", at) for at in range(198)]
        deeds = [("deed", f"y{at}", "plus", (f"x{at}", "n")) for at in range(198)]
        body = chain(nums + [("call", "r", "f", ("n",))] + deeds, ("end", "n"))
        program = ("program", [], [("f", [("n", "num")], "num", body)])
        states = self.check_trace(program, "f", [1], 10 ** 6)
        self.assertEqual(len(states[-1][2]), 2)

    def test_wide_things(self):
        kinds = [("choice", "w", [("four", ["w", "w", "w", "w"]), ("no1", ["num"])])]
        thing = ("node", "no1", (7,))
        for _ in range(6):
            thing = ("node", "four", (thing,) * 4)
        taken = ("take", "a", [("four", ("c", "d", "e", "f"), ("go", "g", ("f", "e"))), ("no1", ("i",), ("go", "h", ("i", "b")))])
        taken = taken[:2] + ([taken[2][0][:2] + (("drop", "c", ("drop", "d", ("drop", "b", ("go", "g", ("f", "e"))))),),
                              taken[2][1][:2] + (("drop", "b", ("end", "i")),)],)
        program = ("program", kinds, [("g", [("a", "w"), ("b", "w")], "num", taken)])
        self.assertIsNone(first_wrong(program))
        states = self.check_trace(program, "g", [thing, thing], 0)
        self.assertEqual(states[-1], ("value", 7))
        _, bill = bill_or_refusal(program)
        self.within(slacks, program, bill, "g", [thing, thing], 5, 400)
        self.assertEqual(self.within(fund_counts, program, "g", [thing, thing])[:2], [1365, 4096])


class RulesTest(Limits):

    def test_bodies_of_400_steps(self):
        self.assertEqual(len(self.within(unknowns, BIG)), 144)
        self.assertEqual(len(self.within(inequalities, BIG)), 10786)
        zeros = [(0, 1)] * 144
        self.assertFalse(self.within(is_bill, BIG, zeros))
        self.assertFalse(self.within(is_refusal, BIG, [(0, 1)] * 10786))

    def test_40_functions_and_12_declarations(self):
        heads = [(f"f{number}", [(f"p{at}", f"k{(number + at) % 12}") for at in range(4)]) for number in range(40)]
        functions = []
        for number, (name, parameters) in enumerate(heads):
            others = tuple(own for own, _ in parameters)
            # The function that is gone to has the same kinds.
            body = ("go", f"f{(number + 12) % 36 if number < 36 else number}", others)
            functions.append((name, parameters, "k0", body))
        program = ("program", rings(), functions)
        self.assertIsNone(first_wrong(program))
        self.assertEqual(len(self.within(unknowns, program)), 40 * (5 * 96 + 3))
        self.assertEqual(len(self.within(inequalities, program)), 40 * (5 * 96 + 3))

    def test_many_makes_of_many_kinds(self):
        functions = [(f"f{number}", [("p", "k0")], "k0", makes_and_drops(390 if number < 4 else 60, "p"))
                     for number in range(40)]
        program = ("program", rings(), functions)
        self.assertIsNone(first_wrong(program))
        makes = 4 * 65 * 5 + 36 * 10 * 5
        self.assertEqual(len(self.within(unknowns, program)), 40 * (2 * 96 + 3) + 96 * makes)
        self.assertEqual(len(self.within(inequalities, program)), 40 * 97 + makes // 5 * (5 + 4 * 96))

    def test_long_hands(self):
        functions = [(f"g{number}", [("n", "num")], "num", ("end", "n")) for number in range(39)]
        steps = []
        for number in range(199):
            steps += [("call", f"x{number}", f"g{number % 39}", ("n",)), ("make", f"y{number}", "cons", (f"x{number}", "z"))]
            steps[-1] = ("deed", f"y{number}", "plus", ("n", f"x{number}"))
        program = ("program", LISTS, functions + [("f", [("n", "num")], "num", chain(steps, ("end", "n")))])
        self.assertIsNone(first_wrong(program))
        rows = self.within(inequalities, program)
        self.assertEqual(len(rows), 39 + 2 * 199 + 1)
        self.assertEqual(len(rows[-1][1]), 2 * 39 + 2)


class BillsTest(Limits):

    def check(self, program, name, values):
        word, paper = self.within(bill_or_refusal, program)
        self.assertTrue(self.within(is_bill if word == "bill" else is_refusal, program, paper))
        told = self.within(least_bill, program, name, values)
        self.assertTrue(self.within(is_least, program, name, values, told))
        self.assertEqual(told[0], "least" if word == "bill" else "refusal")
        if word == "bill":
            self.within(signature, program, told[1], name)
        return word, told

    def test_150_unknowns_and_300_inequalities(self):
        seen = set()
        for seed in range(16):
            program = list_program(seed, 10, 9, 3)
            seen.add(self.check(program, "f0", [row(range(9)) if kind == "list" else 3 for _, kind in program[2][0][1]])[0])
        self.assertEqual(seen, {"bill", "refusal"})

    def test_many_that_are_alike(self):
        # Each way asks the same; so many inequalities are like one another.
        step = ("end", "l")
        for number in range(40):
            step = ("test", "c", ("go", "f", ("c", "l")), step)
        program = ("program", LISTS, [("f", [("c", "flag"), ("l", "list")], "list", step)])
        self.check(program, "f", [True, row(range(50))])

    def test_long_chains_of_calls(self):
        functions = [("f0", [("n", "num"), ("l", "list")], "num", ("drop", "l", ("end", "n")))]
        for number in range(1, 24):
            body = ("make", "m", "cons", ("n", "l"), ("call", "x", f"f{number - 1}", ("n", "m"),
                                                      ("call", "y", f"g{number}", ("x",), ("end", "y"))))
            functions.append((f"f{number}", [("n", "num"), ("l", "list")], "num", body))
        functions += [(f"g{number}", [("n", "num")], "num", ("end", "n")) for number in range(1, 17)]
        functions = functions[:17] + functions[24:]
        program = ("program", LISTS, functions)
        self.assertIsNone(first_wrong(program))
        told = self.check(program, "f16", [3, NIL])[1]
        self.assertEqual(told[2], (peak(program, "f16", [3, NIL], 1000), 1))

    def test_shares_of_many_parts(self):
        # Of so many parts one is made anew: what a part brings is the so manieth part.
        for many in (5, 12, 25):
            inner = ("call", "r", "f", (f"t{many}",), ("make", "x", "cons", ("h0", "r"), chain(
                [("make", f"x{at}", "cons", (f"h{at}", "x" if at == 0 else f"x{at - 1}")) for at in range(many)],
                ("end", f"x{many - 1}"))))
            for at in reversed(range(many)):
                nil = ("make", f"z{at}", "nil", (), ("end", f"z{at}"))
                inner = ("take", f"t{at}", [("nil", (), nil), ("cons", (f"h{at}", f"t{at + 1}"), inner)])
            program = ("program", LISTS, [("f", [("t0", "list")], "list", inner)])
            self.assertIsNone(first_wrong(program))
            self.assertEqual(self.check(program, "f", [row([1])])[1][2], (1, many))


class RewritingsTest(Limits):

    def check(self, bodies, parameters):
        functions = [(f"f{number}", parameters, "num", body) for number, body in enumerate(bodies)]
        program = ("program", LISTS, functions)
        self.assertIsNone(first_wrong(program))
        able = self.within(rewritings, program)
        for value in able[:1] + able[-1:]:
            self.assertTrue(self.within(is_rewriting, program, value))
            self.within(rewritten, program, value)
        told, papers = self.within(passed, program)
        self.assertTrue(self.within(is_passage, program, papers))
        self.assertEqual(self.within(led_by_passage, program, papers), told)
        self.assertEqual([rule for rule, _ in rewritings(told) if rule != "inlined"], [])
        return told, papers

    def test_numbers_that_are_reckoned(self):
        def body(many):
            steps = [("num", f"n{at}", at) for at in range(many)]
            steps += [("deed", f"d{at}", "plus", (f"n{at}", f"d{at - 1}" if at else "n0")) for at in range(many)]
            return chain(steps, ("end", f"d{many - 1}"))
        told, papers = self.check([body(199), body(199), body(100)], [])
        self.assertEqual([function[3][0] for function in told[2]], ["num"] * 3)
        # Each deed is reckoned, and each step but two is dead then.
        self.assertEqual(len(papers), 3 * 498 - 3)

    def test_things_within_one_another(self):
        def body(many):
            steps = [("make", "m0", "nil", ())]
            steps += [("make", f"m{at + 1}", "cons", ("n", f"m{at}")) for at in range(many)]
            return chain(steps + [("drop", f"m{many}")], ("end", "n"))
        told, papers = self.check([body(397), body(397), body(190)], [("n", "num")])
        self.assertEqual([function[3] for function in told[2]], [("end", "n")] * 3)
        self.assertEqual(len(papers), 398 * 2 + 191)

    def test_things_taken_apart(self):
        def body(many):
            step = ("end", "n")
            for at in range(many):
                step = ("make", f"z{at}", "nil", (), ("make", f"m{at}", "cons", ("n", f"z{at}"), ("take", f"m{at}", [
                    ("nil", (), ("end", "n")), ("cons", (f"h{at}", f"l{at}"), ("drop", f"l{at}", step))])))
            return step
        told, papers = self.check([body(79), body(79), body(39)], [("n", "num")])
        self.assertEqual([function[3] for function in told[2]], [("end", "n")] * 3)
        self.assertEqual(len(papers), 2 * (79 * 2 + 39))

    def test_tests_and_calls(self):
        def tests(many):
            step = ("end", "n")
            for at in range(many):
                step = ("test", "c", step, ("raise", "n")) if at % 2 else ("test", "c", step, ("end", "n"))
            return ("flag", "c", True, step)

        def calls(many):
            return chain([("call", f"x{at}", "f0", ("n",)) for at in range(many)], ("end", "n"))
        told, papers = self.check([("end", "n"), tests(199), tests(99), calls(390)], [("n", "num")])
        self.assertEqual(told[2][1][3], ("end", "n"))
        self.assertEqual(len(papers), 199 + 1 + 99 + 1)
        inlined = [("inlined", (1, 3, 0))] * 390
        self.assertTrue(self.within(is_passage, told, inlined))
        self.assertEqual(self.within(led_by_passage, told, inlined)[2][3][3], ("end", "n"))


class PairingsTest(Limits):

    def test_bodies_of_400_steps(self):
        step = ("end", "a0")
        for at in range(99):
            step = ("make", f"a{at}", "cons", (f"h{at}", "b" if at == 98 else f"a{at + 1}"), step)
        for at in reversed(range(99)):
            step = ("take", "x" if at == 0 else f"t{at - 1}", [("nil", (), ("end", "b")), ("cons", (f"h{at}", f"t{at}"),
                                                               ("drop", f"t{at}", step) if at == 98 else step)])
        program = ("program", LISTS, [("f", [("x", "list"), ("b", "list")], "list", step)])
        self.assertIsNone(first_wrong(program))
        self.assertEqual(self.within(how_many_steps, program, "f"), 3 * 99 + 2)
        self.assertEqual(len(self.within(alive, program, "f")), 3 * 99 + 2)
        told = self.within(pairing, program, "f")
        self.assertEqual([made - told[0][0] for made, _ in told], list(range(99)))
        self.assertEqual([taken for _, taken in told], [2 * at for at in reversed(range(99))])
        self.assertTrue(self.within(is_pairing, program, "f", told))
        self.assertTrue(self.within(is_full, program, "f", told))
        self.assertEqual(self.within(saved, program, "f", told), (0, 99))
        self.assertFalse(self.within(is_full, program, "f", told[:-1]))
        for name in ("c0", "t0", "l0"):
            self.assertEqual(len(self.within(alive, BIG, name)), self.within(how_many_steps, BIG, name))
            self.assertEqual(self.within(pairing, BIG, name), [])


if __name__ == "__main__":
    unittest.main()
