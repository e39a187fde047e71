"""[30], [31], [32]: bills found, least bills, and refusals."""

import random
import unittest
from fractions import Fraction

from cellbills.bills import bill_or_refusal, is_least, least_bill
from cellbills.errors import InvalidList, InvalidName, InvalidProgram
from cellbills.judged import fund_counts, is_bill, is_refusal
from cellbills.reader import read_text
from cellbills.rules import inequalities, unknowns
from cellbills.simplex import Tableau
from tests.checks import Checks, spoilt
from tests.list_programs import list_arguments, list_program
from tests.plain_rules import Told
from tests.samples import EMPTY, KINDS, LISTS, NIL, ODD, random_program, random_thing, row
from tests.test_judged import HALF, LOOP, TWICE, ZERO

EVER = read_text("""kind list = nil[] | cons[num, list]
    fun ever(n: num): list = let r = ever(n); cons[n, r]""")
# Three of two parts each for one of two: what a part brings is a third.
THIRDS = read_text("""kind list = nil[] | cons[num, list]
    fun grow(a: list): list = match a { nil[]: nil[] cons[h, t]: match t { nil[]: cons[h, nil[]] cons[k, u]:
      match u { nil[]: cons[h, cons[k, nil[]]] cons[m, v]: let r = grow(v); cons[h, cons[k, cons[m, cons[m, r]]]] } } }""")
MANY = read_text("""
    kind list = nil[] | cons[num, list]
    kind tree = leaf[] | fork[tree, num, tree]
    calls step = (list) to list
    fun join(x: list, y: list): list = match x { nil[]: y cons[h, t]: let r = join(t, y); cons[h, r] }
    fun turn(x: list, y: list): list = match x { nil[]: y cons[h, t]: go turn(t, cons[h, y]) }
    fun flat(t: tree): list = match t { leaf[]: nil[] fork[l, n, r]: let a = flat(l); let b = flat(r);
      go join(a, cons[n, b]) }
    fun put(n: num, t: tree): tree = match t { leaf[]: fork[leaf[], n, leaf[]] fork[l, m, r]:
      if n < m then let x = put(n, l); fork[x, m, r] else let y = put(n, r); fork[l, m, y] }
    fun tree(x: list): tree = match x { nil[]: leaf[] cons[h, t]: let r = tree(t); go put(h, r) }
    fun twice(g: list): list = match g { nil[]: nil[] cons[h, t]: let r = twice(t); cons[h, cons[h, r]] }
    fun sort(x: list): list = let t = tree(x); go flat(t)
    fun kept(x: list): step = keep step join(x)
    fun used(x: list, y: list): list = let g = kept(x); let a = use g(y); go twice(a)
    fun safe(x: list, n: num): list = try a = fails(x, n) then a catch e then cons[e, nil[]]
    fun fails(x: list, n: num): list = let b = twice(x); if n < 0 then drop b; raise n else b
""")


def value_of(counts, amounts):
    return sum((often * Fraction(*amount) for often, amount in zip(counts, amounts)), Fraction(0))


class FoundTest(Checks, unittest.TestCase):

    def found(self, program, wanted):
        word, paper = self.told(bill_or_refusal, program)
        self.assertEqual(word, wanted)
        self.assertIs(is_bill(program, paper), word == "bill")
        self.assertIs(is_refusal(program, paper), word == "refusal")

    def least(self, program, name, values, wanted=None):
        """Check a least bill and its paper by the words of the document; return the total."""
        told = self.told(least_bill, program, name, values)
        self.is_told(True, is_least, program, name, values, told)
        self.assertEqual((len(told), told[0]), (4, "least"))
        _, bill, total, paper = told
        self.assertTrue(is_bill(program, bill))
        counts, rows = fund_counts(program, name, values), inequalities(program)
        self.assertEqual(len(paper), len(rows))
        sums, least = [Fraction(0)] * len(counts), Fraction(0)
        for (_, own, wants), amount in zip(rows, paper):
            self.assertGreaterEqual(amount[0], 0)
            least += wants * Fraction(*amount)
            for number, often in own:
                sums[number] += often * Fraction(*amount)
        self.assertTrue(all(one <= other for one, other in zip(sums, counts)))
        self.assertEqual([value_of(counts, bill), least], [Fraction(*total)] * 2)
        if wanted is not None:
            self.assertEqual(total, wanted)
        return total

    def test_programs_with_and_without_bills(self):
        for program in (TWICE, HALF, THIRDS, MANY):
            self.found(program, "bill")
        for program in (EVER, LOOP):
            self.found(program, "refusal")
        both = ("program", LISTS, TWICE[2] + EVER[2])
        self.found(both, "refusal")

    def test_next_to_nothing(self):
        self.assertEqual(bill_or_refusal(EMPTY), ("bill", []))
        self.assertEqual(bill_or_refusal(("program", LISTS, [])), ("bill", []))
        kinds = ("program", KINDS, [])
        self.assertEqual(bill_or_refusal(kinds), ("bill", [ZERO] * len(unknowns(kinds))))
        self.found(read_text("fun f(n: num): num = n"), "bill")
        self.found(read_text("fun f(n: num): num = go f(n)"), "bill")
        # Inequalities in which nothing is left: 0 is to be at least 1.
        self.assertIn(((1, 0, 0), [], 1), inequalities(LOOP))
        self.found(read_text("fun g(n: num): num = n fun f(n: num): num = try x = f(n) then x catch e then e"), "refusal")

    def test_sums(self):
        for many in range(5):
            self.least(TWICE, "twice", [row(range(many))], (many, 1))
        for many in range(8):
            self.least(HALF, "grow", [row(range(many))], Fraction(many, 2).as_integer_ratio())
            self.least(THIRDS, "grow", [row(range(many))], Fraction(many, 3).as_integer_ratio())

    def test_a_program_of_many_functions(self):
        tree = ("node", "leaf", ())
        for number in range(4):
            tree = ("node", "fork", (tree, number, ("node", "leaf", ())))
        self.least(MANY, "sort", [row(range(6))])
        self.least(MANY, "flat", [tree])
        self.least(MANY, "used", [row(range(3)), NIL])
        self.least(MANY, "safe", [row(range(3)), -1])
        self.least(MANY, "put", [5, tree])
        self.assertEqual(self.least(MANY, "turn", [row(range(9)), NIL]), (0, 1))
        # What is joined is handed to twice elsewhere: so each part has to bring one here, too.
        self.assertEqual(self.least(MANY, "join", [row(range(9)), NIL]), (9, 1))

    def test_against_no_program_tells_less(self):
        for seed in range(50):
            for program in (random_program(seed), list_program(seed), list_program(seed, 6, 8, 5)):
                word, paper = bill_or_refusal(program)
                self.assertIs(is_bill(program, paper), word == "bill")
                self.assertIs(is_refusal(program, paper), word == "refusal")
                rng = random.Random(seed)
                for name, parameters, _, _ in program[2][:3]:
                    if program[1][1:]:
                        values = [random_thing(rng, program, kind) for _, kind in parameters]
                    else:
                        values = list_arguments(rng, parameters)
                    if word == "bill":
                        total = self.least(program, name, values)
                        told = Told(program, paper).bill_of(name, values)
                        self.assertLessEqual(Fraction(*total), told)
                    else:
                        told = least_bill(program, name, values)
                        self.assertEqual((told[0], len(told)), ("refusal", 2))
                        self.assertTrue(is_refusal(program, told[1]))
                        self.assertTrue(is_least(program, name, values, told))

    def test_other_bills_of_the_least_sum(self):
        told = least_bill(TWICE, "twice", [row(range(2))])
        word, bill, total, paper = told
        others = 0
        for number in range(13):
            more = list(bill)
            more[number] = (bill[number][0] + bill[number][1], bill[number][1])
            good = is_bill(TWICE, more) and fund_counts(TWICE, "twice", [row(range(2))])[number] == 0
            self.is_told(good, is_least, TWICE, "twice", [row(range(2))], (word, more, total, paper))
            others += good
        self.assertGreater(others, 0)

    def test_one_part_changed(self):
        values = [row(range(3))]
        word, bill, total, paper = told = least_bill(HALF, "grow", values)
        for odd in ("bill", "refusal", "", None, ["least"], 1):
            self.is_told(False, is_least, HALF, "grow", values, (odd, bill, total, paper))
        for odd in ((6, 4), (3, 1), (1, 2), (0, 1), [3, 2], 1, None, (3,), (3, 2, 1), (True, 1), (2, 1), (-3, 2), (-3, -2)):
            self.is_told(False, is_least, HALF, "grow", values, (word, bill, odd, paper))
        for odd in (list(told), told[:3], told + (1,), (word, tuple(bill), total, paper), (word, bill, total, tuple(paper)),
                    (word, bill[:-1], total, paper), (word, bill, total, paper[:-1]), (word, bill, total, paper + [ZERO]),
                    (word, [ZERO] * len(bill), total, paper), (word, bill, total, [ZERO] * len(paper)),
                    (word, bill), ("refusal", bill), ("refusal", paper), ("refusal",), ("bill", bill)):
            self.is_told(False, is_least, HALF, "grow", values, odd)
        greater = [(amount[0] + 2 * amount[1], amount[1]) for amount in bill]
        self.is_told(False, is_least, HALF, "grow", values, (word, greater, total, paper))
        for number, amount in enumerate(paper):
            less = paper[:number] + [(-1, 1)] + paper[number + 1:]
            self.is_told(False, is_least, HALF, "grow", values, (word, bill, total, less))
            if amount[0]:
                less = paper[:number] + [(amount[0], amount[1] * 7) if amount[0] % 7 else ZERO] + paper[number + 1:]
                rows = inequalities(HALF)
                if rows[number][2]:
                    self.is_told(False, is_least, HALF, "grow", values, (word, bill, total, less))

    def test_spoilt_values(self):
        rng = random.Random(2)
        for program, name, values in ((HALF, "grow", [row([1])]), (EVER, "ever", [3])):
            told = least_bill(program, name, values)
            for value in spoilt(told, rng):
                self.assertIsInstance(is_least(program, name, values, value), bool)

    def test_papers_in_which_an_unknown_stands_too_often(self):
        values = [row(range(2))]
        word, bill, total, paper = least_bill(TWICE, "twice", values)
        rows, counts = inequalities(TWICE), fund_counts(TWICE, "twice", values)
        refused = 0
        for number, (_, own, least) in enumerate(rows):
            if least:
                continue
            more = list(paper)
            more[number] = (paper[number][0] + paper[number][1], paper[number][1])
            sums = [value_of([dict(other).get(at, 0) for _, other, _ in rows], more) for at in range(len(counts))]
            good = all(one <= other for one, other in zip(sums, counts))
            self.is_told(good, is_least, TWICE, "twice", values, (word, bill, total, more))
            refused += not good
        self.assertGreater(refused, 3)

    def test_for_other_values(self):
        told = least_bill(TWICE, "twice", [row(range(2))])
        self.is_told(False, is_least, TWICE, "twice", [row(range(3))], told)
        self.is_told(False, is_least, TWICE, "twice", [NIL], told)
        self.is_told(True, is_least, TWICE, "twice", [row([7, 7])], told)

    def test_without_a_bill(self):
        told = self.told(least_bill, EVER, "ever", [3])
        self.assertEqual(told[0], "refusal")
        self.is_told(True, is_least, EVER, "ever", [3], told)
        self.is_told(True, is_least, EVER, "ever", [3], bill_or_refusal(EVER))
        rows = inequalities(EVER)
        for odd in (list(told), told + (1,), ("refusal", [ZERO] * len(rows)), ("refusal", tuple(told[1])),
                    ("least", told[1]), ("least", [ZERO] * 7, ZERO, told[1]), ("refusal", told[1][1:]), None):
            self.is_told(False, is_least, EVER, "ever", [3], odd)

    def test_errors(self):
        for odd in ODD:
            if odd != ("program", [], []):
                self.refused(bill_or_refusal, InvalidProgram, 0, odd)
                self.refused(least_bill, InvalidProgram, 0, odd, None, None)
                self.refused(is_least, InvalidProgram, 0, odd, None, None, None)
            self.refused(least_bill, InvalidName, 1, TWICE, odd, None)
            self.refused(is_least, InvalidName, 1, TWICE, odd, None, None)
            self.is_told(False, is_least, TWICE, "twice", [NIL], odd)
            self.is_told(False, is_least, EVER, "ever", [3], ("refusal", odd))
            for part in range(4):
                told = least_bill(TWICE, "twice", [NIL])
                self.is_told(False, is_least, TWICE, "twice", [NIL], told[:part] + (odd,) + told[part + 1:])
        for odd in ODD + [[5], (NIL,), [NIL, NIL], [row([1] * 200)]]:
            self.refused(least_bill, InvalidList, 2, TWICE, "twice", odd)
            self.refused(is_least, InvalidList, 2, TWICE, "twice", odd, None)


class TableauTest(unittest.TestCase):
    """The way of looking, for sums that no program asks for."""

    def solved(self, bounds, rows):
        tableau = Tableau(bounds, rows)
        endless = tableau.solve()
        if endless is not None:
            return None
        return Fraction(tableau.goal.right, tableau.goal.below)

    def test_sums_on_which_others_go_round_in_a_ring(self):
        # Two of them that are well known, in whole numbers.
        columns = [([(0, 1), (1, 2)], 3), ([(0, -32), (1, -48)], -80), ([(0, -4), (1, -2), (2, 1)], 2),
                   ([(0, 36), (1, 12)], -24)]
        self.assertEqual(self.solved([0, 0, 1], columns), 5)
        columns = [([(0, 1), (1, 1), (2, 1)], 10), ([(0, -11), (1, -3)], -57), ([(0, -5), (1, -1)], -9),
                   ([(0, 18), (1, 2)], -24)]
        self.assertEqual(self.solved([0, 0, 1], columns), 1)

    def test_many_that_are_level(self):
        rng = random.Random(4)
        for many in (5, 20, 40):
            for _ in range(20):
                bounds = [0] * many
                rows = [(sorted({rng.randrange(many): rng.choice([1, -1]) for _ in range(4)}.items()), rng.choice([0, 1]))
                        for _ in range(2 * many)]
                tableau = Tableau(bounds, rows)
                endless = tableau.solve()
                if endless is None:
                    # All prices are at least 0, and each row holds with them.
                    prices = {key: Fraction(often, tableau.goal.below) for key, often in tableau.goal.counts.items()}
                    self.assertTrue(all(often >= 0 for often in prices.values()))
                    for counts, least in rows:
                        self.assertGreaterEqual(sum(often * prices.get(key, 0) for key, often in counts), least)

    def test_the_careful_way_alone(self):
        rng = random.Random(6)
        for _ in range(30):
            many = rng.randrange(3, 12)
            bounds = [rng.choice([0, 0, 1, 3]) for _ in range(many)]
            rows = [(sorted({rng.randrange(many): rng.choice([1, 2, -1]) for _ in range(3)}.items()), rng.choice([0, 1, -1]))
                    for _ in range(2 * many)]
            one, other = Tableau(bounds, rows), Tableau(bounds, rows)
            quick = one.entering
            one.entering = lambda careful, quick=quick: quick(True)
            self.assertEqual(one.solve() is None, other.solve() is None)
            if one.solve() is None:
                self.assertEqual(Fraction(one.goal.right, one.goal.below), Fraction(other.goal.right, other.goal.below))


if __name__ == "__main__":
    unittest.main()
