"""[26], [27], [28]: bills and refusals, and what bills tell."""

import random
import unittest

from cellbills.bills import bill_or_refusal, least_bill
from cellbills.errors import InvalidBill, InvalidList, InvalidName, InvalidProgram
from cellbills.judged import bill_of, fund_counts, is_bill, is_refusal, signature
from cellbills.peaks import peak
from cellbills.reader import read_text
from cellbills.reading import read
from cellbills.rules import inequalities, unknowns
from tests.checks import Checks
from tests.kept_things import are_kept_well
from tests.list_programs import list_arguments, list_program
from tests.plain_rules import Told
from tests.samples import EMPTY, NIL, ODD, random_program, random_thing, row

KINDS = """
kind list = nil[] | cons[num, list]
kind tree = leaf[flag] | fork[tree, list, tree] | hold[step, join]
kind pair = two[list, list]
calls step = (num) to num
calls join = (list, num) to list
"""
TWICE = read_text("""kind list = nil[] | cons[num, list]
fun twice(a: list): list = match a { nil[]: nil[] cons[h, t]: let r = twice(t); cons[h, cons[h, r]] }""")
LOOP = ("program", [], [("loop", [("n", "num")], "num", ("call", "s", "loop", ("n",), ("end", "s")))])
HALF = read_text("""kind list = nil[] | cons[num, list]
fun grow(a: list): list = match a { nil[]: nil[] cons[h, t]: match t { nil[]: cons[h, nil[]] cons[k, u]:
  let r = grow(u); cons[h, cons[k, cons[k, r]]] } }""")
ZERO, ONE = (0, 1), (1, 1)
# The bill of twice: a cons brings one.
BILL = [ZERO, ONE] + [ZERO] * 11


class FractionsTest(Checks, unittest.TestCase):

    def test_bills(self):
        self.is_told(True, is_bill, TWICE, BILL)
        self.is_told(True, is_bill, TWICE, [ZERO, (5, 2)] + [ZERO] * 11)
        self.is_told(True, is_bill, TWICE, [(7, 3), (10 ** 29, 10 ** 29 - 1)] + [ZERO] * 11)
        self.is_told(False, is_bill, TWICE, [ZERO, (10 ** 29 - 1, 10 ** 29)] + [ZERO] * 11)
        self.is_told(False, is_bill, TWICE, [ZERO] * 13)

    def test_forms(self):
        for odd in ((2, 2), (0, 2), (4, 2), (1, 0), (-1, 1), (1, -1), (0, 0), (-2, -1), (True, 1), (1, True), 1, [1, 1],
                    (1,), (1, 1, 1), None, "11", ("1", 1), (10 ** 29 * 2, 2)):
            self.is_told(False, is_bill, TWICE, [ZERO, odd] + [ZERO] * 11)
            self.is_told(False, is_bill, TWICE, [ZERO, ONE, odd] + [ZERO] * 10)
            self.is_told(False, is_refusal, LOOP, [odd, ZERO, ZERO])
            self.is_told(False, is_refusal, LOOP, [ONE, ZERO, odd])
        for odd in (tuple(BILL), BILL[:-1], BILL + [ZERO], [], [BILL], {}, None):
            self.is_told(False, is_bill, TWICE, odd)
        for odd in ((ONE, ZERO, ZERO), [ONE, ZERO], [ONE] + [ZERO] * 3, [], None):
            self.is_told(False, is_refusal, LOOP, odd)
        for odd in ODD:
            self.is_told(False, is_bill, TWICE, odd)
            self.is_told(odd == [], is_bill, EMPTY, odd)
            self.is_told(False, is_refusal, LOOP, odd)
            self.is_told(False, is_refusal, EMPTY, odd)

    def test_one_inequality_alone_that_does_not_hold(self):
        rows = inequalities(TWICE)
        broken = set()
        rng = random.Random(3)
        for _ in range(3000):
            bill = [ZERO] * 13
            for number in range(13):
                bill[number] = (rng.choice([0, 0, 1, 2]), 1)
            wrong = [at for at, (_, counts, least) in enumerate(rows)
                     if sum(bill[number][0] * often for number, often in counts) < least]
            self.assertIs(is_bill(TWICE, bill), not wrong)
            if len(wrong) == 1:
                broken.add(wrong[0])
        self.assertGreater(len(broken), 5)

    def test_one_part_less_is_no_bill(self):
        found, bill = bill_or_refusal(HALF)
        self.assertEqual(found, "bill")
        self.is_told(True, is_bill, HALF, bill)
        least = least_bill(HALF, "grow", [row([1, 2])])[1]
        self.is_told(True, is_bill, HALF, least)
        numbers = {name: number for number, name in enumerate(unknowns(HALF))}
        cons = numbers[("function", "grow", "argument", 0, "cons")]
        self.assertIn((1, 2), least)
        self.assertEqual(least[cons], (1, 2))
        self.is_told(False, is_bill, HALF, least[:cons] + [(1, 3)] + least[cons + 1:])
        self.is_told(False, is_bill, HALF, least[:cons] + [(49999999, 100000000)] + least[cons + 1:])

    def test_refusals(self):
        self.is_told(True, is_refusal, LOOP, [ONE, ZERO, ZERO])
        self.is_told(True, is_refusal, LOOP, [(1, 10 ** 29), (3, 7), (10 ** 29, 1)])
        # The least of the sum is 0.
        self.is_told(False, is_refusal, LOOP, [ZERO, ONE, ONE])
        self.is_told(False, is_refusal, LOOP, [ZERO] * 3)
        self.is_told(False, is_refusal, TWICE, [ZERO] * len(inequalities(TWICE)))
        self.is_told(False, is_refusal, EMPTY, [])

    def test_an_unknown_that_stands_once_too_often(self):
        ever = read_text("""kind list = nil[] | cons[num, list]
            fun ever(n: num): list = let r = ever(n); cons[n, r]""")
        found, refusal = bill_or_refusal(ever)
        self.assertEqual(found, "refusal")
        self.is_told(True, is_refusal, ever, refusal)
        rows, told = inequalities(ever), set()
        for at in range(len(rows)):
            more = list(refusal)
            more[at] = (refusal[at][0] + refusal[at][1], refusal[at][1])
            sums = {}
            for (_, own, _), amount in zip(rows, more):
                for number, often in own:
                    sums[number] = sums.get(number, 0) + often * amount[0] * 1000 // amount[1]
            least = sum(row[2] * amount[0] * 1000 // amount[1] for row, amount in zip(rows, more))
            good = least > 0 and all(own <= 0 for own in sums.values())
            self.assertIs(is_refusal(ever, more), good)
            told.add((least > 0, good))
        self.assertIn((True, False), told)
        self.assertIn((True, True), told)

    def test_never_both(self):
        for seed in range(40):
            program = list_program(seed)
            found, paper = bill_or_refusal(program)
            self.assertIs(is_bill(program, paper), found == "bill")
            self.assertIs(is_refusal(program, paper), found == "refusal")


class ToldTest(Checks, unittest.TestCase):

    def test_signature(self):
        program = read_text(KINDS + """fun g(n: num, l: list, s: step, t: tree): pair = drop s; drop t; two[l, nil[]]
            fun h(s: step): join = drop s; let x = 5; raise x fun five(): num = 5""")
        names = unknowns(program)
        _, bill = bill_or_refusal(program)
        # Of arguments more is never too much: so all rates can be unlike.
        bill = [(2 * number + 41, 2) if name[2] == "argument" and name[0] == "function" else amount
                for number, (name, amount) in enumerate(zip(names, bill))]
        self.assertTrue(is_bill(program, bill))
        arguments, answer, wants, leaves, fault = self.told(signature, program, bill, "g")
        told = dict(zip(names, bill))
        self.assertEqual(len(names), len(bill))
        self.assertEqual(arguments[::2], [None, None])
        self.assertEqual(arguments[1], [(tag, told[("function", "g", "argument", 1, tag)]) for tag in ("nil", "cons")])
        self.assertEqual(arguments[3], [(tag, told[("function", "g", "argument", 3, tag)])
                                        for tag in ("nil", "cons", "leaf", "fork", "hold")])
        self.assertEqual(answer, [(tag, told[("function", "g", "answer", tag)]) for tag in ("nil", "cons", "two")])
        self.assertEqual((wants, leaves, fault), tuple(told[("function", "g", word)] for word in ("wants", "leaves", "fault")))
        self.assertEqual(self.told(signature, program, bill, "h")[:2], ([None], None))
        self.assertEqual(signature(program, bill, "five")[:2], ([], None))

    def test_bill_of(self):
        self.assertEqual([bill_of(TWICE, BILL, "twice", [row(range(many))]) for many in range(4)], [0, 1, 2, 3])
        # No whole number: the least one that is at least as great.
        least = least_bill(HALF, "grow", [row([1])])[1]
        told = [bill_of(HALF, least, "grow", [row(range(many))]) for many in range(8)]
        self.assertEqual([two - one for one, two in zip(told, told[2:])], [1] * 6)
        for many in range(8):
            whole = Told(HALF, least).bill_of("grow", [row(range(many))])
            self.assertTrue(whole <= told[many] < whole + 1)

    def test_funds_of_kept_functions(self):
        program = read_text(KINDS + """
            fun k(a: list, b: list, n: num): list = drop a; b
            fun m(t: tree, n: num): num = drop t; n
            fun keeps(a: list): join = keep join k(a)
            fun holds(t: tree): step = keep step m(t)
            fun f(t: tree, g: join, n: num): num = drop t; drop g; n""")
        names = unknowns(program)
        kept = ("kept", "k", (row([1, 2]),))
        inner = ("node", "hold", (("kept", "m", (("node", "leaf", (True,)),)), kept))
        tree = ("node", "fork", (inner, row([5]), ("node", "leaf", (False,))))
        counts = dict(zip(names, self.told(fund_counts, program, "f", [tree, kept, 7])))
        wanted = {("function", "f", "wants"): 1}
        for key, often in (("fork", 1), ("hold", 1), ("leaf", 1), ("cons", 1), ("nil", 1)):
            wanted[("function", "f", "argument", 0, key)] = often
        wanted[("function", "k", "argument", 0, "cons")] = 4
        wanted[("function", "k", "argument", 0, "nil")] = 2
        wanted[("function", "m", "argument", 0, "leaf")] = 1
        self.assertEqual({key: often for key, often in counts.items() if often}, wanted)
        self.assertEqual(len(fund_counts(program, "f", [tree, kept, 7])), len(names))

    def test_counts_and_sums(self):
        self.assertEqual(self.told(fund_counts, TWICE, "twice", [row(range(7))]), [1, 7, 0, 0, 1] + [0] * 8)
        for seed in range(60):
            program, rng = list_program(seed), random.Random(seed)
            found, bill = bill_or_refusal(program)
            for name, parameters, _, _ in program[2]:
                values = list_arguments(rng, parameters)
                counts = fund_counts(program, name, values)
                self.assertEqual(len(counts), len(unknowns(program)))
                if found == "bill":
                    whole = Told(program, bill).bill_of(name, values)
                    self.assertEqual(-(-whole // 1), bill_of(program, bill, name, values))
                    sums = sum(often * amount[0] / amount[1] for often, amount in zip(counts, bill))
                    self.assertAlmostEqual(sums, float(whole))

    def test_wide_and_deep_values(self):
        kinds = [("choice", "w", [("four", ["w", "w", "w", "w"]), ("no1", [])])]
        program = ("program", kinds, [("f", [("p", "w")], "w", ("end", "p"))])
        thing = ("node", "no1", ())
        for _ in range(6):
            thing = ("node", "four", (thing,) * 4)
        self.assertEqual(fund_counts(program, "f", [thing])[:2], [1365, 4096])
        self.assertEqual(fund_counts(TWICE, "twice", [row(range(199))])[:2], [1, 199])

    def test_errors(self):
        rest = (None, None, None)
        for odd in ODD:
            if odd != ("program", [], []):
                self.refused(is_bill, InvalidProgram, 0, odd, None)
                self.refused(is_refusal, InvalidProgram, 0, odd, None)
                self.refused(signature, InvalidProgram, 0, odd, None, None)
                self.refused(bill_of, InvalidProgram, 0, odd, *rest)
                self.refused(fund_counts, InvalidProgram, 0, odd, None, None)
            self.refused(signature, InvalidBill, 1, TWICE, odd, None)
            self.refused(bill_of, InvalidBill, 1, TWICE, odd, None, None)
            self.refused(signature, InvalidName, 2, TWICE, BILL, odd)
            self.refused(bill_of, InvalidName, 2, TWICE, BILL, odd, None)
            self.refused(fund_counts, InvalidName, 1, TWICE, odd, None)
        for odd in ([ZERO] * 13, tuple(BILL), BILL[1:]):
            self.refused(bill_of, InvalidBill, 1, TWICE, odd, "twice", [NIL])
            self.refused(signature, InvalidBill, 1, TWICE, odd, "twice")
        for odd in ODD + [[5], (NIL,), [NIL, NIL], [row([True])], [row([1] * 200)], [list(NIL)]]:
            self.refused(bill_of, InvalidList, 3, TWICE, BILL, "twice", odd)
            self.refused(fund_counts, InvalidList, 2, TWICE, "twice", odd)


class EnoughTest(unittest.TestCase):

    def check(self, program, name, values, bill):
        """[28]: with as many cells as the bill tells a reading does not want."""
        told, hand = Told(program, bill), bill_of(program, bill, name, values)
        outcome, left, _ = read(program, name, values, hand, 3000)
        self.assertNotEqual(outcome, ("want",))
        self.assertLessEqual(peak(program, name, values, 3000), hand)
        if outcome[0] == "value":
            fund = told.fund(outcome[1], ("function", name, "answer"))
            self.assertGreaterEqual(left, told.rates[("function", name, "leaves")] + fund)
        if outcome[0] == "fault":
            self.assertGreaterEqual(left, told.rates[("function", name, "fault")])
        return outcome[0]

    def test_readings_with_what_a_bill_tells(self):
        ended = set()
        for seed in range(60):
            for program in (random_program(seed), list_program(seed)):
                rng = random.Random(seed)
                found, bill = bill_or_refusal(program)
                if found == "refusal":
                    continue
                for name, parameters, _, _ in program[2]:
                    if program[1][1:]:
                        values = [random_thing(rng, program, kind) for _, kind in parameters]
                    else:
                        values = list_arguments(rng, parameters)
                    if are_kept_well(program, [kind for _, kind in parameters], values):
                        least = least_bill(program, name, values)[1]
                        ended.update([self.check(program, name, values, own) for own in (bill, least)])
        self.assertEqual(ended, {"value", "fault", "on"})

    def test_just_enough(self):
        for many in range(6):
            self.assertEqual(peak(TWICE, "twice", [row(range(many))], 1000), many)
            self.check(TWICE, "twice", [row(range(many))], BILL)
            self.check(HALF, "grow", [row(range(many))], least_bill(HALF, "grow", [row([1])])[1])


if __name__ == "__main__":
    unittest.main()
