"""[29]: slacks, state by state."""

import random
import unittest
from fractions import Fraction

from cellbills.bills import bill_or_refusal, least_bill
from cellbills.errors import InvalidBill, InvalidList, InvalidName, InvalidNumber, InvalidProgram
from cellbills.judged import bill_of
from cellbills.papers import trace
from cellbills.reader import read_text
from cellbills.slacks import slacks
from tests.checks import Checks
from tests.kept_things import are_kept_well
from tests.list_programs import list_arguments, list_program
from tests.plain_papers import step_of
from tests.plain_rules import Told
from tests.samples import NIL, ODD, random_program, random_thing, row
from tests.test_judged import BILL, HALF, TWICE

PROGRAM = read_text("""
kind list = nil[] | cons[num, list]
kind tree = leaf[flag] | fork[tree, list, tree]
calls step = (num) to num
calls make = (num, list) to list
fun fail1(n: num): num = raise n
fun first(l: list, n: num): num = drop l; n
fun failing(l: list, n: num): num = drop l; raise n
fun cell(n: num): list = cons[n, nil[]]
fun more(n: num, l: list): list = cons[n, l]
fun most(k: list, n: num, l: list): list = drop k; cons[n, cons[n, l]]
fun turn(x: list, y: list): list = match x { nil[]: y cons[h, t]: go turn(t, cons[h, y]) }
fun keeps(l: list, n: num): num = let g = keep step first(l); let r = use g(n); r + n
fun goes(l: list, n: num): num = let g = keep step failing(l); go use g(n)
fun tries(l: list, n: num): num = let g = keep step failing(l); try x = called(g, n) then x catch e then e
fun called(g: step, n: num): num = let r = use g(n); r + n
fun makes(l: list, n: num): list = let g = keep make most(cons[n, nil[]]); let a = use g(n, l);
  let h = keep make more(); go use h(n, a)
fun around(l: list, n: num): list = go makes(l, n)
fun inside(l: list, n: num): list = let a = around(l, n); let b = turn(a, nil[]); cons[n, b]
fun saved(l: list, n: num): num = let k = cell(n); try x = tries(l, n) then drop k; fail1(x) catch e then drop k; e
fun walk(t: tree, n: num): list = match t { leaf[c]: nil[] fork[l, m, r]: let a = walk(l, n); let b = walk(r, n);
  drop m; go turn(a, b) }
fun ever(l: list, n: num): num = go ever(l, n)
fun beyond(n: num): list = let x = cons[n, nil[]]; drop x; go cell(n)
fun lost(n: num): list = let a = beyond(n); drop a; go cell(n)
fun double(l: list): list = match l { nil[]: nil[] cons[h, t]: let r = double(t); cons[h, cons[h, r]] }
fun both(x: list, y: list): list = let a = double(x); let b = double(y); drop a; b
fun held(x: list, y: list, n: num): list = let g = keep make doubled(y); let a = double(x); go use g(n, a)
fun doubled(y: list, n: num, a: list): list = drop a; let r = double(y); cons[n, r]
fun caught(x: list, y: list, n: num): list = try a = failed(x, n) then let b = double(y); drop a; b
  catch e then go double(y)
fun failed(x: list, n: num): list = let a = double(x); drop a; raise n
fun start(x: list, y: list): list = go middle(x, y)
fun middle(x: list, y: list): list = let a = both(x, y); drop a; go ending()
fun ending(): list = let a = cell(1); let b = cell(2); drop a; b
""")
LEAF = ("node", "leaf", (True,))
TREE = ("node", "fork", (LEAF, row([1, 2]), ("node", "fork", (LEAF, row([3]), LEAF))))
CALLS = [("keeps", [row([1, 2]), 3]), ("goes", [row([1, 2]), 3]), ("tries", [row([1]), 3]), ("makes", [row([1]), 3]),
         ("around", [row([1]), 3]), ("inside", [row([1, 2]), 3]), ("saved", [row([4]), 3]), ("walk", [TREE, 3]),
         ("ever", [row([4]), 3]), ("beyond", [3]), ("lost", [3]), ("both", [row([1, 2]), row([3, 4, 5])]), ("held", [row([1, 2]), row([3, 4, 5]), 6]),
         ("caught", [row([1, 2]), row([3, 4, 5]), 6]), ("start", [row([1, 2]), row([3, 4, 5])]), ("turn", [row([1, 2, 3]), NIL])]


class SlacksTest(Checks, unittest.TestCase):

    def check(self, program, bill, name, arguments, hand, steps):
        """Check slacks against another look at them; return them as Fractions."""
        told = self.told(slacks, program, bill, name, arguments, hand, steps)
        states = [state for state in trace(program, name, arguments, hand, steps) if len(state) == 4]
        wanted = Told(program, bill).slacks(states)
        self.assertEqual([Fraction(*own) for own in told], wanted)
        self.assertEqual(told, [(own.numerator, own.denominator) for own in wanted])
        return wanted

    def bills(self, program, name, arguments):
        found, bill = bill_or_refusal(program)
        self.assertEqual(found, "bill")
        return [bill, least_bill(program, name, arguments)[1]]

    def test_the_first_state(self):
        for name, arguments in CALLS:
            for bill in self.bills(PROGRAM, name, arguments):
                for hand in (0, 3, 10 ** 29):
                    told = self.told(slacks, PROGRAM, bill, name, arguments, hand, 0)
                    self.assertEqual([Fraction(*own) for own in told], [hand - Told(PROGRAM, bill).bill_of(name, arguments)])

    def test_each_sort_of_step(self):
        heads = set()
        for name, arguments in CALLS:
            for bill in self.bills(PROGRAM, name, arguments):
                hand = bill_of(PROGRAM, bill, name, arguments)
                for more in (0, 2):
                    told = self.check(PROGRAM, bill, name, arguments, hand + more, 200)
                    self.assertGreaterEqual(told[0], more)
                    self.assertEqual(told, sorted(told))
            heads |= {step_of(PROGRAM, state[0])[0] for state in trace(PROGRAM, name, arguments, hand, 200) if len(state) == 4}
        self.assertEqual(heads, {"num", "make", "take", "call", "go", "keep", "use", "usego", "drop", "raise", "try",
                                 "end", "deed"})

    def test_goes_count_once_for_a_function(self):
        # Of a bill with more than is needed at a go, what is more goes on being asked for.
        names = self.names()
        lists = [row([1, 2]), row([3, 4, 5])]
        for name, arguments in (("lost", [3]), ("start", lists)):
            _, bill, _, _ = least_bill(PROGRAM, name, arguments)
            bill = [(amount[0] + 6 * amount[1], amount[1]) if own[1:] == (name, "wants") else amount
                    for own, amount in zip(names, bill)]
            told = self.check(PROGRAM, bill, name, arguments, 100, 300)
            self.assertEqual(told, sorted(told))
            self.assertGreater(len(told), 8)
            # More than is wanted is asked for until the function ends.
            more = least_bill(PROGRAM, name, arguments)[1]
            less = self.check(PROGRAM, more, name, arguments, 94, 300)
            self.assertEqual(told[0], less[0])

    def test_funds_of_what_frames_keep(self):
        _, bill, total, _ = least_bill(PROGRAM, "both", [row([1, 2]), row([3, 4, 5])])
        # Each part brings one, and a frame keeps the second list.
        self.assertEqual(total, (6, 1))
        told = self.check(PROGRAM, bill, "both", [row([1, 2]), row([3, 4, 5])], 6, 300)
        self.assertEqual(told[:4], [0] * 4)

    def names(self):
        return list(Told(PROGRAM, bill_or_refusal(PROGRAM)[1]).rates)

    def test_a_hand_that_is_too_small(self):
        told = slacks(TWICE, BILL, "twice", [row([1, 2])], 0, 20)
        self.assertEqual(told, [(-2, 1)] * 9)
        least = least_bill(HALF, "grow", [row([1])])[1]
        self.assertEqual(slacks(HALF, least, "grow", [row([1])], 0, 0), [(-1, 2)])
        self.check(HALF, least, "grow", [row([1, 2, 3])], 0, 20)
        self.check(HALF, least, "grow", [row([1, 2, 3])], 1, 20)
        self.check(HALF, least, "grow", [row([1, 2, 3])], 5, 50)

    def test_how_many_there_are(self):
        for steps in range(12):
            told = slacks(TWICE, BILL, "twice", [row([7])], 1, steps)
            self.assertEqual(told, [(0, 1)] * min(steps + 1, 8))
        # A step that wants stands behind the last state.
        self.assertEqual(len(slacks(TWICE, BILL, "twice", [row([7])], 0, 400)), 7)

    def test_against_another_look(self):
        many = 0
        for seed in range(50):
            for program in (random_program(seed), list_program(seed)):
                rng = random.Random(seed)
                found, bill = bill_or_refusal(program)
                if found == "refusal":
                    continue
                for name, parameters, _, _ in program[2]:
                    kinds = [kind for _, kind in parameters]
                    if program[1][1:]:
                        values = [random_thing(rng, program, kind) for kind in kinds]
                    else:
                        values = list_arguments(rng, parameters)
                    enough = bill_of(program, bill, name, values)
                    for hand in (enough, rng.randrange(enough + 1)):
                        told = self.check(program, bill, name, values, hand, rng.choice([3, 50, 150]))
                        if are_kept_well(program, kinds, values):
                            self.assertEqual(told, sorted(told))
                            many += 1
        self.assertGreater(many, 100)

    def test_errors(self):
        for odd in ODD:
            if odd != ("program", [], []):
                self.refused(slacks, InvalidProgram, 0, odd, None, None, None, None, None)
            self.refused(slacks, InvalidBill, 1, TWICE, odd, None, None, None, None)
            self.refused(slacks, InvalidName, 2, TWICE, BILL, odd, None, None, None)
        self.refused(slacks, InvalidBill, 1, TWICE, [(0, 1)] * 13, "twice", [NIL], 0, 0)
        for odd in ODD + [[5], [NIL, NIL], (NIL,), [row([True])]]:
            self.refused(slacks, InvalidList, 3, TWICE, BILL, "twice", odd, None, None)
        for odd in ODD + [-1, "1"]:
            if odd not in (0, 5, 10 ** 29) or isinstance(odd, bool):
                self.refused(slacks, InvalidNumber, 4, TWICE, BILL, "twice", [NIL], odd, None)
        for odd in ODD + [-1, "1", 401, 100000]:
            if odd not in (0, 5) or isinstance(odd, bool):
                self.refused(slacks, InvalidNumber, 5, TWICE, BILL, "twice", [NIL], 0, odd)


if __name__ == "__main__":
    unittest.main()
