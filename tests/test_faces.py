"""[50] to [53]: prices and inner numbers, faces, cuts and papers, and units exchanged."""

import random
import unittest
from fractions import Fraction
from math import gcd

from cellbills.bills import bill_or_refusal
from cellbills.errors import InvalidList, InvalidUnit, TooMany, Unlike
from cellbills.faces import cut, face, face_sums, faces_bill, inner_numbers, is_face, keeps, prices, unlet
from cellbills.judged import is_bill
from cellbills.reader import read_text
from cellbills.rules import unknowns
from cellbills.units import alone, linked, parted
from tests.checks import Checks, spoilt
from tests.some_units import Told, row_at, some_units, value_of
from tests.samples import ODD
from tests.test_units import NOT_UNITS, function, unit

KIND = "kind list = nil[] | cons[num, list] "


def unit_of(text, *lot):
    """Return the unit of the functions of a text with some names, or of all."""
    program = read_text(KIND + text)
    names = [own[0] for own in program[2]]
    lot = list(lot) or names
    return parted(program, [lot, [name for name in names if name not in lot]])[0]


# Prices: a list in (2), a list out (2), wants, leaves, fault.
SAME = unit_of("fun same(x: list): list = x")
SAME_FACE = [([1, 0, -1, 0, 0, 0, 0], 0), ([0, 1, 0, -1, 0, 0, 0], 0), ([0, 0, 0, 0, 1, -1, 0], 0)]
GROW = unit_of("fun grow(x: list, n: num): list = cons[n, x]")
LOOP = unit_of("fun loop(n: num): num = let r = loop(n); r")
NONE = unit("none", [], [("g", ["num"], "num")], [])
TWICE = unit_of("""fun twice(x: list): list = match x { nil[]: nil[] cons[h, t]: let r = twice(t); cons[h, cons[h, r]] }""")
ALL = (SAME, GROW, LOOP, NONE, TWICE)


def ints(*numbers):
    return [(number, 1) for number in numbers]


class RowsTest(Checks, unittest.TestCase):

    def let(self, own, row, wanted):
        """Check whether a row is let, and what bears it out."""
        plain = Told(own)
        inner, paper = self.told(inner_numbers, own, row), self.told(cut, own, row)
        self.assertIs(inner is not None, wanted)
        self.assertIs(paper is None, wanted)
        if wanted:
            self.assertTrue(plain.holds(row, inner))
            self.assertTrue(all(gcd(*own) == 1 and own[1] > 0 for own in inner))
        else:
            numbers, least, sums = paper
            self.assertTrue(plain.is_paper(numbers, least, sums))
            self.assertLess(value_of(numbers, row), least)
            self.assertTrue(all(type(number) is int for number in numbers + [least]))
            self.assertTrue(all(gcd(*own) == 1 and own[1] > 0 for own in sums))

    def test_how_many_prices(self):
        self.assertEqual([self.told(prices, own) for own in ALL], [7, 7, 3, 3, 7])
        calls = unit_of("calls step = (list, num) to list fun f(g: step): list = go use g(nil[], h(1)) fun h(a: num): num = a", "f")
        self.assertEqual(prices(unit("u", [("calls", "step", ["list", "num"], "list")] + SAME[2])), 7)
        self.assertEqual(prices(calls), 7 + (2 + 3) + 3)
        self.assertEqual(prices(unit()), 0)

    def test_without_inner_unknowns(self):
        self.let(SAME, ints(0, 0, 0, 0, 0, 0, 0), True)
        self.let(SAME, ints(2, 3, 2, 3, 1, 1, 9), True)
        self.let(SAME, ints(2, 3, 1, 2, 5, 1, 0), True)
        for at in (0, 1, 4):
            row = ints(2, 3, 2, 3, 1, 1, 0)
            row[at] = (row[at][0] * 7 - 1, 7)
            self.let(SAME, row, False)
        self.let(NONE, ints(0, 5, 0), True)
        for row in (ints(0, 0, 0), ints(9, 9, 9)):
            self.let(LOOP, row, False)
        self.assertEqual(inner_numbers(SAME, ints(0, 0, 0, 0, 0, 0, 0)), [])
        self.assertEqual(inner_numbers(unit(), []), [])

    def test_with_inner_unknowns(self):
        # What is made is given a rate between those of what it is made of, and for what it is handed.
        self.let(GROW, ints(0, 0, 0, 0, 1, 0, 0), True)
        self.let(GROW, ints(0, 0, 0, 0, 0, 0, 0), False)
        self.let(GROW, ints(3, 3, 3, 3, 4, 0, 0), True)
        self.let(GROW, ints(3, 3, 3, 3, 3, 0, 0), False)
        self.let(GROW, ints(3, 4, 3, 3, 4, 0, 0), True)
        self.let(GROW, ints(3, 3, 3, 4, 9, 0, 0), False)
        self.let(GROW, ints(3, 3, 3, 3, 5, 1, 7), True)
        self.let(GROW, ints(3, 3, 3, 3, 5, 2, 7), False)
        self.let(TWICE, ints(0, 1, 0, 0, 0, 0, 0), True)
        self.let(TWICE, ints(0, 3, 0, 1, 0, 0, 0), True)
        self.let(TWICE, [(0, 1), (5, 2), (0, 1), (3, 4), (0, 1), (0, 1), (0, 1)], True)
        self.let(TWICE, [(0, 1), (12, 5), (0, 1), (3, 4), (0, 1), (0, 1), (0, 1)], False)

    def test_errors(self):
        zero = ints(*[0] * 7)
        bad = [zero[:6], zero + ints(0), tuple(zero), ints(*[0] * 6) + [(-1, 1)], zero[:6] + [(2, 2)], zero[:6] + [(0, 2)],
               zero[:6] + [(1, 0)], zero[:6] + [(1, -1)], zero[:6] + [0], zero[:6] + [[0, 1]], zero[:6] + [(False, 1)],
               zero[:6] + [(1, True)], zero[:6] + [(0,)], zero[:6] + [None], [0] * 7]
        for call in (inner_numbers, cut):
            for odd in NOT_UNITS:
                self.refused(call, InvalidUnit, 0, odd, None)
            for odd in bad + ODD:
                self.refused(call, InvalidList, 1, SAME, odd)
        for call in (prices, face):
            for odd in NOT_UNITS:
                self.refused(call, InvalidUnit, 0, odd)


class FaceTest(Checks, unittest.TestCase):

    def test_faces_by_hand(self):
        self.assertTrue(is_face(SAME, SAME_FACE))
        for own in ALL:
            told = self.told(face, own)
            self.assertTrue(len(told) <= 600)
            self.is_told(True, is_face, own, told)
            self.is_told(True, is_face, own, told[::-1] + told)
        self.assertEqual(face(NONE), [])
        # The rates of what is made lie between: they stand in no tuple.
        grow = [([1, 0, -1, 0, 0, 0, 0], 0), ([0, 1, 0, -1, 0, 0, 0], 0), ([0, 0, 0, -1, 1, -1, 0], 1)]
        self.is_told(True, is_face, GROW, grow)
        for tuples in (grow[1:], grow[:2], grow[:2] + [([0, -1, 0, 0, 1, -1, 0], 1)]):
            self.is_told(False, is_face, GROW, tuples)

    def test_faces_with_one_thing_changed(self):
        for at in range(3):
            numbers, least = SAME_FACE[at]
            others = SAME_FACE[:at] + SAME_FACE[at + 1:]
            self.is_told(False, is_face, SAME, others)
            self.is_told(False, is_face, SAME, others + [(numbers, least - 1)])
            self.is_told(False, is_face, SAME, others + [(numbers, least + 1)])
            self.is_told(True, is_face, SAME, others + [([number * 7 for number in numbers], least)])
            for place in range(7):
                for more in (-1, 1):
                    changed = numbers[:place] + [numbers[place] + more] + numbers[place + 1:]
                    self.is_told(False, is_face, SAME, others + [(changed, least)])
        # What each row keeps anyway may stand there, and what others ask for together.
        self.is_told(True, is_face, SAME, SAME_FACE + [([0] * 7, 0), ([0] * 7, -5), ([5] * 7, 0), ([5] * 7, -1)])
        self.is_told(True, is_face, SAME, SAME_FACE + [([1, 2, -1, -2, 3, -3, 4], -1)])
        self.is_told(True, is_face, SAME, [([1, 1, -1, -1, 0, 0, 0], 0)] + SAME_FACE)
        for more in (([5] * 7, 1), ([1, 1, -2, 0, 0, 0, 0], 0), ([0] * 7, 1), ([0, 0, 0, 0, 0, 0, 1], 1)):
            self.is_told(False, is_face, SAME, SAME_FACE + [more])
        # Sums in place of what they come of are not enough.
        self.is_told(False, is_face, SAME, [([1, 1, -1, -1, 0, 0, 0], 0)] + SAME_FACE[1:])

    def test_units_that_let_none_or_all(self):
        for tuples in ([([0, 0, 0], 1)], [([-1, 0, 0], 1)], [([1, 0, 0], 5), ([-1, -1, 0], -4)], [([-1, -2, -3], 9), ([1, 1, 1], 0)]):
            self.is_told(True, is_face, LOOP, tuples)
            self.is_told(False, is_face, NONE, tuples)
        for tuples in ([], [([0, 0, 0], 0)], [([0, 0, 1], -3)]):
            self.is_told(False, is_face, LOOP, tuples)
            self.is_told(True, is_face, NONE, tuples)
        for tuples in ([([1, 0, 0], 1)], [([0, -1, 0], 0)], [([1, 0, 0], 5), ([-1, 0, 0], -5)]):
            self.is_told(False, is_face, LOOP, tuples)
            self.is_told(False, is_face, NONE, tuples)
        for tuples in ([([0, 0], 0)], [([0, 0, 0, 0], 0)], [([], 0)], [([0, 0, 0], 0), ([0, 0], 0)]):
            self.is_told(False, is_face, NONE, tuples)
        self.is_told(True, is_face, unit(), [])
        self.is_told(True, is_face, unit(), [([], 0)])
        self.is_told(False, is_face, unit(), [([], 1)])

    def test_values_that_are_no_faces(self):
        good = ([0] * 7, 0)
        for value in ([([0] * 6, 0)], [([0] * 8, 0)], [((0,) * 7, 0)], [[[0] * 7, 0]], [([0] * 7, 0, 0)], [([0] * 7,)],
                      [([0] * 6 + [True], 0)], [([0] * 7, False)], [([0] * 7, None)], [([0] * 6 + [(0, 1)], 0)], [None],
                      tuple(SAME_FACE), [([0] * 6 + ["0"], 0)], [([0] * 7, (0, 1))]):
            self.is_told(False, is_face, SAME, value)
            self.is_told(False, is_face, SAME, SAME_FACE + value if isinstance(value, list) else value)
        self.is_told(True, is_face, SAME, SAME_FACE + [good] * 597)
        self.is_told(False, is_face, SAME, SAME_FACE + [good] * 598)
        for odd in ODD:
            self.is_told(odd == [], is_face, NONE, odd)
            self.is_told(False, is_face, SAME, [odd])
        for value in spoilt(SAME_FACE, random.Random(0)):
            self.assertIn(is_face(SAME, value), (True, False))
        for odd in NOT_UNITS:
            self.refused(is_face, InvalidUnit, 0, odd, None)

    def test_keeps(self):
        tuples = [([1, -2], 3), ([0, 1], 0)]
        for row, wanted in ((ints(3, 0), True), (ints(5, 1), True), ([(11, 2), (5, 4)], True), ([(11, 2), (4, 3)], False),
                            (ints(2, 0), False), (ints(0, 0), False), ([(29, 10), (0, 1)], False)):
            self.is_told(wanted, keeps, tuples, row)
        for row in ([], ints(0), ints(1, 2, 3), [(1, 7)] * 50):
            self.is_told(True, keeps, [], row)
        self.is_told(True, keeps, [([], 0)], [])
        self.is_told(False, keeps, [([], 1)], [])
        for value in ([([1], 0), ([1, 2], 0)], [([1], 0)] * 601, (([1], 0),), [[[1], 0]], [((1,), 0)], [([True], 0)],
                      [([1], True)], [([1], 0, 0)], None, {}, [5], "face"):
            self.refused(keeps, InvalidList, 0, value, None)
        self.is_told(True, keeps, [([1], 0)] * 600, ints(0))
        for row in (ints(0), ints(0, 0, 0), tuple(ints(0, 0)), [(-1, 1), (0, 1)], [(2, 4), (0, 1)], [0, 0], None,
                    [(0, 1), (True, 1)], [(0, 1), [0, 1]]):
            self.refused(keeps, InvalidList, 1, tuples, row)
        for row in ([(-1, 1)], [(2, 2)], (), None, [0], {}):
            self.refused(keeps, InvalidList, 1, [], row)

    def test_sums(self):
        for own in ALL:
            plain = Told(own)
            for numbers, least in face(own):
                sums = self.told(face_sums, own, numbers, least)
                self.assertTrue(plain.is_paper(numbers, least, sums))
                sums = face_sums(own, [number + 1 for number in numbers], least - 3)
                self.assertTrue(plain.is_paper([number + 1 for number in numbers], least - 3, sums))
        for numbers, least in (([1, 0, -1, 0, 0, 0, 0], 1), ([1, 0, -2, 0, 0, 0, 0], 0), ([0] * 7, 1), ([-1] + [0] * 6, 0)):
            self.assertIsNone(self.told(face_sums, SAME, numbers, least))
        self.assertTrue(Told(SAME).is_paper([0] * 7, 0, face_sums(SAME, [0] * 7, 0)))
        self.assertTrue(Told(LOOP).is_paper([0, 0, 0], 1, face_sums(LOOP, [0, 0, 0], 1)))
        self.assertEqual(face_sums(NONE, [0, 0, 0], -4), [])
        self.assertIsNone(face_sums(NONE, [0, 0, 0], 4))
        self.assertIsNone(face_sums(NONE, [5, -1, 5], 0))
        for odd in ODD + [[0] * 6, [0] * 8, (0,) * 7, [0] * 6 + [True], [0] * 6 + [(0, 1)], [0] * 6 + [None]]:
            self.refused(face_sums, InvalidList, 1, SAME, odd, None)
        for odd in ODD:
            if not (type(odd) is int):
                self.refused(face_sums, InvalidList, 2, SAME, [0] * 7, odd)
        for odd in NOT_UNITS:
            self.refused(face_sums, InvalidUnit, 0, odd, None, None)

    def test_random_units(self):
        many, kinds = 0, {True: 0, False: 0}
        for seed in range(120):
            for own in some_units(seed):
                plain = Told(own)
                self.assertEqual(prices(own), plain.prices)
                if not plain.is_small():
                    continue
                rng = random.Random(seed)
                told = face(own)
                self.assertTrue(is_face(own, told))
                for numbers, least in told:
                    self.assertTrue(plain.is_paper(numbers, least, face_sums(own, numbers, least)))
                many += 1
                row = [(rng.randrange(4), 1) for _ in range(plain.prices)]
                for _ in range(12):
                    if told and rng.random() < 0.8:
                        row = row_at(rng, told, row, rng.choice([0, 0, Fraction(1, 5), -1]))
                    else:
                        row = [(rng.randrange(9), 1) for _ in range(plain.prices)]
                    inner, wrong = inner_numbers(own, row), cut(own, row)
                    self.assertEqual(keeps(told, row), inner is not None)
                    self.assertEqual(wrong is None, inner is not None)
                    kinds[wrong is None] += 1
                    if wrong is None:
                        self.assertTrue(plain.holds(row, inner))
                    else:
                        self.assertTrue(plain.is_paper(*wrong))
                        self.assertLess(value_of(wrong[0], row), wrong[1])
                if told:
                    # Left out or lowered it is none, but where the others ask for it.
                    at = rng.randrange(len(told))
                    others = told[:at] + told[at + 1:]
                    left = is_face(own, others)
                    self.assertEqual(is_face(own, others + [(told[at][0], told[at][1] - 2)]), left)
        self.assertGreater(many, 60)
        self.assertGreater(min(kinds.values()), 100)

    def test_faces_made_longer(self):
        own, rng = TWICE, random.Random(2)
        told = face(own)
        longer = list(told)
        while len(longer) < 600:
            picks = [(rng.randrange(1, 4), rng.choice(told)) for _ in range(2)]
            longer.append(([sum(often * part[0][at] for often, part in picks) for at in range(7)],
                           sum(often * part[1] for often, part in picks)))
        self.assertTrue(is_face(own, longer))
        rng.shuffle(longer)
        self.assertTrue(is_face(own, longer))
        self.assertFalse(is_face(own, longer[:599] + [([0, 0, 0, 0, 0, 0, 1], 1)]))


class LinkedTest(Checks, unittest.TestCase):

    def goes_on(self, units, told):
        """Check that fractions are let by each unit, and that they go on to a bill."""
        program = linked(units)
        names = [name for name in unknowns(program) if name[0] != "make"]
        self.assertEqual(len(told), len(names))
        table = dict(zip(names, told))
        inner = {}
        for own in units:
            wanted = unknowns(alone(own))
            row = [table[name] for name in wanted if name[0] != "make"]
            numbers = inner_numbers(own, row)
            self.assertIsNotNone(numbers)
            for name, number in zip([name for name in wanted if name[0] == "make"], numbers):
                function_name = own[4][name[1][1]][0]
                inner[(function_name, name[1][2:], name[2])] = number
        bill = [table[name] if name[0] != "make" else inner[(program[2][name[1][1]][0], name[1][2:], name[2])]
                for name in unknowns(program)]
        self.assertTrue(is_bill(program, bill))

    def test_bills_by_units(self):
        seen = {True: 0, False: 0}
        for seed in range(80):
            units = some_units(seed)
            if not units:
                continue
            told = self.told(faces_bill, units)
            has = bill_or_refusal(linked(units))[0] == "bill"
            self.assertEqual(told is not None, has)
            seen[has] += 1
            if has:
                self.goes_on(units, told)
        self.assertGreater(min(seen.values()), 5)

    def test_units_without_functions_and_with_orders_of_their_own(self):
        kinds = SAME[2] + [("choice", "tree", [("leaf", []), ("fork", ["tree", "tree"])]), ("calls", "step", ["tree"], "list")]
        one = unit("ua", kinds[:2], [], [function("f", [("t", "tree")], "tree", ("end", "t"))])
        other = unit("ub", kinds[::-1], [("f", ["tree"], "tree")], [function(
            "g", [("t", "tree"), ("h", "step")], "list", ("call", "r", "f", ("t",), ("use", "a", "h", ("r",), ("end", "a"))))])
        for units in ([one, other], [other, one], [unit("uc", kinds[2:] + kinds[1:2] + kinds[:1]), one, other],
                      [unit("uc", kinds)], [unit()]):
            told = self.told(faces_bill, units)
            self.assertIsNotNone(told)
            self.goes_on(units, told)
        self.assertEqual(faces_bill([unit()]), [])
        self.assertIsNone(faces_bill([one, ("unit", "ul") + LOOP[2:]]))

    def test_errors(self):
        for odd in NOT_UNITS:
            self.refused(faces_bill, InvalidList, 0, odd)
            self.refused(faces_bill, InvalidList, 0, [SAME, odd])
        self.refused(faces_bill, InvalidList, 0, [])
        self.refused(faces_bill, InvalidList, 0, [unit(f"u{number}") for number in range(13)])
        with self.assertRaises(Unlike) as caught:
            faces_bill([SAME, SAME])
        self.assertEqual(caught.exception.value, ("unit", "ua", "ua"))
        many = [unit(f"u{at}", [], [], [function(f"f{at}x{number}") for number in range(14)]) for at in range(3)]
        with self.assertRaises(TooMany) as caught:
            faces_bill(many)
        self.assertEqual(caught.exception.value, 42)


class UnletTest(Checks, unittest.TestCase):

    def check(self, elder, newer, may):
        row = self.told(unlet, elder, newer)
        self.assertIs(row is None, may)
        if row is not None:
            self.assertIsNotNone(inner_numbers(elder, row))
            self.assertIsNone(inner_numbers(newer, row))
            self.assertTrue(all(gcd(*own) == 1 and own[0] >= 0 and own[1] > 0 for own in row))

    def test_by_hand(self):
        one = unit_of("fun f(x: list, n: num): list = cons[n, x]")
        two = unit_of("fun f(y: list, k: num): list = cons[k, cons[k, y]]")
        same = unit_of("fun f(x: list, n: num): list = x")
        none = unit_of("fun f(x: list, n: num): list = let r = f(x, n); r")
        falls = unit_of("fun f(x: list, n: num): list = drop x; raise n")
        also = unit_of("fun f(x: list, n: num): list = match x { nil[]: nil[] cons[h, t]: cons[h, t] }")
        self.check(one, one, True)
        self.check(one, two, False)
        self.check(two, one, True)
        self.check(same, one, False)
        # What is made may bring less along than what it is made of.
        self.check(one, same, True)
        self.check(none, one, True)
        self.check(one, none, False)
        self.check(none, none, True)
        self.check(same, falls, False)
        self.check(falls, same, False)
        self.check(same, also, True)
        self.check(also, same, False)

    def test_rows_far_out(self):
        # The one that is told leads on without end from rows that both let.
        falls = unit_of("fun f(x: list, n: num): list = drop x; raise n")
        same = unit_of("fun f(x: list, n: num): list = x")
        row = unlet(falls, same)
        self.assertTrue(row[2] > row[0] or row[3] > row[1] or row[5] > row[4])
        more = unit_of("fun f(x: list, n: num): list = let a = cons[n, x]; let b = cons[n, a]; let c = cons[n, b]; drop c; raise n")
        self.check(more, same, False)

    def test_random_units(self):
        seen = {True: 0, False: 0}
        for seed in range(160):
            for elder in some_units(seed)[:1]:
                for newer in changed(elder, random.Random(seed)):
                    if not (Told(elder).is_small() and Told(newer).is_small()):
                        continue
                    row = unlet(elder, newer)
                    self.check(elder, newer, row is None)
                    seen[row is None] += 1
                    if row is None:
                        for numbers, least in face(newer):
                            sums = face_sums(elder, numbers, least)
                            self.assertTrue(sums is not None or is_face(elder, [([0] * prices(elder), 1)]))
        self.assertGreater(min(seen.values()), 10)

    def test_errors(self):
        one = unit_of("fun f(x: list, n: num): list = g(x) fun g(x: list): list = x", "f")
        self.assertEqual(len(one[3]), 1)
        self.assertIsNone(unlet(one, one))
        _, name, kinds, takes, functions = one
        end = ("end", "x")
        for newer in (("unit", "ub", kinds, takes, functions), ("unit", name, kinds + [("choice", "k", [("m", [])])], takes, functions),
                      ("unit", name, kinds, takes + [("h", [], "num")], functions), ("unit", name, kinds, [], [("f",) + functions[0][1:3] + (end,)]),
                      ("unit", name, kinds, takes, []), ("unit", name, kinds, takes, functions + [function("h")]),
                      ("unit", name, kinds, takes, [("h",) + functions[0][1:]]),
                      ("unit", name, kinds, takes, [("f", [("n", "num"), ("x", "list")], "list", end)]),
                      ("unit", name, kinds, takes, [("f", [("x", "list"), ("n", "num")], "num", ("drop", "x", ("end", "n")))])):
            self.refused(unlet, Unlike, 1, one, newer)
            self.refused(unlet, Unlike, 1, newer, one)
        two = unit("u", SAME[2], [], [function("f"), function("g")])
        self.refused(unlet, Unlike, 1, two, unit("u", SAME[2], [], [function("g"), function("f")]))
        more = [("choice", "k", [("m", [])])]
        self.refused(unlet, Unlike, 1, unit("u", SAME[2] + more), unit("u", more + SAME[2]))
        for odd in NOT_UNITS:
            self.refused(unlet, InvalidUnit, 0, odd, None)
            self.refused(unlet, InvalidUnit, 1, one, odd)


def changed(elder, rng):
    """Yield units with the same outside and other bodies."""
    _, name, kinds, takes, functions = elder
    for _ in range(3):
        found = []
        for own in functions:
            others = [other for other in functions if [kind for _, kind in other[1]] == [kind for _, kind in own[1]]
                      and other[2] == own[2]]
            other = rng.choice(others)
            lists = [part for part, kind in own[1] if kind == "list"]
            if rng.random() < 0.4 and own[2] == "list" and lists and all(kind in ("num", "list", "flag") for _, kind in own[1]):
                step = ("end", lists[0])
                for part in lists[1:]:
                    step = ("drop", part, step)
                found.append(own[:3] + (step,))
            else:
                found.append((own[0],) + other[1:])
        yield ("unit", name, kinds, takes, found)


if __name__ == "__main__":
    unittest.main()
