"""[20]: the plain reading."""

import copy
import random
import unittest

from cellbills.checker import is_program
from cellbills.errors import InvalidList, InvalidName, InvalidNumber, InvalidProgram
from cellbills.reader import read_text
from cellbills.reading import read
from cellbills.values import size
from tests.plain_reading import plain_read
from tests.samples import KINDS, NIL, ODD, one_function, random_program, random_thing, row

PROGRAM = read_text("""
kind list = nil[] | cons[num, list]
kind pair = two[list, list]
calls step = (num) to num
calls join = (list) to list
calls give = () to num
fun fail1(n: num): num = raise n
fun id1(n: num): num = n
fun add(x: num, y: num): num = x + y
fun first(l: list, n: num): num = drop l; n
fun failing(l: list, n: num): num = drop l; raise n
fun turn(x: list, y: list): list = match x { nil[]: y cons[h, t]: go turn(t, cons[h, y]) }
fun same(x: list): list = x
fun make1(n: num): list = cons[n, nil[]]
fun makes(n: num): list = let a = cons[n, nil[]]; cons[n, a]
fun opens(l: list): num = match l { nil[]: 0 cons[h, t]: drop t; h }
fun keeps(n: num): step = keep step add(n)
fun bare(): give = keep give seven()
fun seven(): num = 7
fun takes(l: list): step = keep step first(l)
fun calls0(n: num): num = id1(n)
fun calls1(n: num, a: num): num = let r = id1(n); r + a
fun calls3(n: num, a: num, b: num, c: num): num = let r = id1(n); r + a + b + c
fun calls4(n: num, a: num, b: num, c: num, d: num): num = let r = id1(n); r + a + b + c + d
fun uses(g: step, n: num): num = let r = use g(n); r + n
fun goes(g: step, n: num): num = go use g(n)
fun tries(l: list, n: num): num = try x = id1(n) then drop l; x catch e then drop l; e + n
fun catches(l: list, n: num): num = try x = fail1(n) then drop l; x catch e then drop l; e + n
fun plain(n: num): num = try x = id1(n) then x catch e then e
fun deep(l: list, n: num): num = let r = deeper(n, n); let s = opens(l); r + s
fun deeper(n: num, m: num): num = let l = makes(m); let r = fail1(n); let s = opens(l); r + s
fun saved(l: list, n: num): num = let k = makes(n); try x = deep(l, n) then drop k; x catch e then drop k; e
fun again(n: num): num = let r = again(n); r + n
fun ever(n: num): num = go ever(n)
fun drops(p: pair): num = drop p; 0
fun test1(c: flag): num = if c then 1 else 2
fun up(n: num): num = if n < 1 then n else let m = n - 1; let r = up(m); r + n
""")
ONE, TWO = row([1]), row([1, 2])


class ReadTest(unittest.TestCase):

    def check(self, name, arguments, hand, outcome, many, left=None):
        """Check a reading with just enough in hand, and that it wants with one cell less."""
        told = read(PROGRAM, name, arguments, hand, 1000)
        inside = sum(size(thing) for thing in arguments)
        answer = size(outcome[1]) if outcome[0] == "value" else 0
        self.assertEqual(told, (outcome, hand + inside - answer if left is None else left, many))
        more = read(PROGRAM, name, arguments, hand + 5, 1000)
        self.assertEqual(more, (told[0], told[1] + 5, told[2]))
        if hand:
            self.assertEqual(read(PROGRAM, name, arguments, hand - 1, 1000)[0], ("want",))
        # Each outcome at its very last step.
        self.assertEqual(read(PROGRAM, name, arguments, hand, many), told)
        self.assertEqual(read(PROGRAM, name, arguments, hand, many - 1)[::2], (("on",), many - 1))

    def test_it_is_a_program(self):
        self.assertTrue(is_program(PROGRAM))

    def test_values_and_faults(self):
        self.check("seven", [], 0, ("value", 7), 2)
        self.check("id1", [-5], 0, ("value", -5), 1)
        self.check("fail1", [3], 0, ("fault", 3), 1)
        self.check("add", [2 ** 63 - 1, 1], 0, ("value", -2 ** 63), 2)
        self.check("same", [TWO], 0, ("value", TWO), 1)
        self.check("test1", [True], 0, ("value", 1), 3)
        self.check("test1", [False], 0, ("value", 2), 3)

    def test_make(self):
        self.check("make1", [5], 1, ("value", row([5])), 3)
        self.check("makes", [5], 2, ("value", row([5, 5])), 4)

    def test_take_and_drop(self):
        self.check("opens", [NIL], 0, ("value", 0), 3)
        self.check("opens", [row([4, 5, 6])], 0, ("value", 4), 3)
        self.check("first", [TWO, 9], 0, ("value", 9), 2)
        self.check("failing", [TWO, 9], 0, ("fault", 9), 2)
        self.check("drops", [("node", "two", (TWO, ONE))], 0, ("value", 0), 3)
        self.assertEqual(read(PROGRAM, "drops", [("node", "two", (TWO, ONE))], 0, 1)[1], 4)
        self.assertEqual(read(PROGRAM, "opens", [TWO], 0, 1)[1], 1)
        self.assertEqual(read(PROGRAM, "opens", [NIL], 0, 1)[1], 0)

    def test_go(self):
        self.check("turn", [row([1, 2, 3]), NIL], 0, ("value", row([3, 2, 1])), 11)

    def test_keep_use_usego(self):
        self.check("keeps", [3], 1, ("value", ("kept", "add", (3,))), 2)
        self.check("bare", [], 0, ("value", ("kept", "seven", ())), 2)
        self.check("takes", [TWO], 1, ("value", ("kept", "first", (TWO,))), 2)
        self.check("uses", [("kept", "add", (3,)), 4], 1, ("value", 11), 5)
        self.check("uses", [("kept", "id1", ()), 4], 1, ("value", 8), 4)
        self.check("uses", [("kept", "first", (TWO,)), 4], 1, ("value", 8), 5)
        self.check("goes", [("kept", "add", (3,)), 4], 0, ("value", 7), 3)
        self.check("goes", [("kept", "failing", (TWO,)), 4], 0, ("fault", 4), 3)
        # A use takes its cost first, and then gives the cell of the kept function.
        self.assertEqual(read(PROGRAM, "uses", [("kept", "add", (3,)), 4], 0, 9), (("want",), 0, 0))
        self.assertEqual(read(PROGRAM, "uses", [("kept", "add", (3,)), 4], 1, 1), (("on",), 1, 1))
        self.assertEqual(read(PROGRAM, "uses", [("kept", "id1", ()), 4], 1, 1), (("on",), 0, 1))
        self.assertEqual(read(PROGRAM, "goes", [("kept", "add", (3,)), 4], 0, 1), (("on",), 1, 1))
        self.assertEqual(read(PROGRAM, "goes", [("kept", "id1", ()), 4], 0, 1), (("on",), 0, 1))

    def test_frames_of_calls(self):
        self.check("calls0", [3], 1, ("value", 3), 3)
        self.check("calls1", [3, 4], 1, ("value", 7), 4)
        self.check("calls3", [3, 1, 1, 1], 1, ("value", 6), 6)
        self.check("calls4", [3, 1, 1, 1, 1], 2, ("value", 7), 7)
        self.assertEqual(read(PROGRAM, "calls4", [3, 1, 1, 1, 1], 2, 1), (("on",), 0, 1))
        self.assertEqual(read(PROGRAM, "calls4", [3, 1, 1, 1, 1], 2, 2), (("on",), 2, 2))

    def test_tries(self):
        self.check("plain", [3], 1, ("value", 3), 3)
        self.check("tries", [TWO, 3], 2, ("value", 3), 4)
        self.check("catches", [TWO, 3], 2, ("value", 6), 5)
        # What a try keeps is not gone behind a fault.
        self.assertEqual(read(PROGRAM, "catches", [TWO, 3], 2, 2), (("on",), 2, 2))

    def test_frames_left_by_faults(self):
        # A frame that keeps l, and one that keeps two cells that were made.
        self.check("deep", [TWO, 3], 4, ("fault", 3), 8)
        self.check("deeper", [3, 3], 3, ("fault", 3), 7)
        # The try keeps two cells more; they are there behind the fault, those of l are free.
        self.check("saved", [TWO, 3], 7, ("value", 3), 16)
        self.assertEqual(read(PROGRAM, "saved", [TWO, 3], 7, 14), (("on",), 7, 14))

    def test_on(self):
        for steps in (0, 1, 5, 100000):
            self.assertEqual(read(PROGRAM, "ever", [1], 0, steps), (("on",), 0, steps))
        self.assertEqual(read(PROGRAM, "again", [1], 50, 50), (("on",), 0, 50))
        # Behind the last step that is let nothing is looked at.
        self.assertEqual(read(PROGRAM, "again", [1], 50, 51), (("want",), 0, 50))
        self.assertEqual(read(PROGRAM, "again", [1], 0, 0), (("on",), 0, 0))
        self.assertEqual(read(PROGRAM, "again", [1], 0, 1), (("want",), 0, 0))

    def test_many_open_calls(self):
        told = read(PROGRAM, "up", [9999], 10000, 100000)
        self.assertEqual(told, (("value", 9999 * 5000), 10000, 6 * 9999 + 4 + 2 * 9999))

    def test_against_another_reading(self):
        for seed in range(120):
            program, rng = random_program(seed), random.Random(seed)
            for name, parameters, _, _ in program[2]:
                arguments = [random_thing(rng, program, kind) for _, kind in parameters]
                hand, steps = rng.choice([0, 1, 2, 3, 5, 100]), rng.choice([0, 1, 5, 20, 150])
                told = read(program, name, arguments, hand, steps)
                self.assertEqual(told, plain_read(program, name, arguments, hand, steps))
                if told[0][0] in ("value", "fault"):
                    cells = sum(size(thing) for thing in arguments)
                    left = size(told[0][1]) if told[0][0] == "value" else 0
                    self.assertEqual(told[1], hand + cells - left)

    def test_arguments_stay(self):
        program, arguments = copy.deepcopy(PROGRAM), [row([1, 2, 3]), NIL]
        for _ in range(2):
            told = read(program, "turn", arguments, 1, 100)
            self.assertEqual(told[0], ("value", row([3, 2, 1])))
        self.assertEqual((program, arguments), (PROGRAM, [row([1, 2, 3]), NIL]))


class ErrorsTest(unittest.TestCase):

    def refused(self, kind, at, *arguments):
        with self.assertRaises(kind) as caught:
            read(*arguments)
        self.assertIs(caught.exception.value, arguments[at])

    def test_program_first(self):
        for odd in ODD:
            if odd != ("program", [], []):
                self.refused(InvalidProgram, 0, odd, None, None, None, None)

    def test_then_the_name(self):
        for odd in ODD + ["ADD", "list", "cons", "step"]:
            self.refused(InvalidName, 1, PROGRAM, odd, None, None, None)

    def test_then_the_arguments(self):
        for odd in ODD + [[1], [1, 2, 3], (1, 2), [1, True], [1, 2 ** 63], [NIL, 1], [1, "2"], [1, [2]]]:
            self.refused(InvalidList, 2, PROGRAM, "add", odd, None, None)
        for odd in ([ONE], [ONE, 5], [ONE, ("node", "two", (ONE, ONE))], [ONE, row([True])], [ONE, row([1] * 200)],
                    [list(ONE), ONE], [ONE, ("kept", "add", (1,))]):
            self.refused(InvalidList, 2, PROGRAM, "turn", odd, -1, -1)
        for odd in ([("kept", "add", ()), 4], [("kept", "turn", (ONE,)), 4], [("kept", "first", (ONE, 1)), 4]):
            self.refused(InvalidList, 2, PROGRAM, "uses", odd, -1, -1)
        self.refused(InvalidList, 2, PROGRAM, "seven", None, 0, 0)
        self.refused(InvalidList, 2, PROGRAM, "seven", (), 0, 0)

    def test_then_the_hand(self):
        for odd in ODD + [-5, "1", 1.5]:
            if odd not in (0, 5, 10 ** 29) or isinstance(odd, bool):
                self.refused(InvalidNumber, 3, PROGRAM, "add", [1, 2], odd, None)

    def test_then_the_steps(self):
        for odd in ODD + [-5, 100001, 10 ** 20]:
            if odd not in (0, 5) or isinstance(odd, bool):
                self.refused(InvalidNumber, 4, PROGRAM, "add", [1, 2], 0, odd)
        self.assertEqual(read(PROGRAM, "add", [1, 2], 10 ** 29, 100000), (("value", 3), 10 ** 29, 2))

    def test_things_at_their_bounds(self):
        self.assertEqual(read(PROGRAM, "same", [row([1] * 199)], 0, 1), (("value", row([1] * 199)), 0, 1))

    def test_a_name_that_no_function_has(self):
        self.refused(InvalidName, 1, one_function(("raise", "n"), [("n", "num")], kinds=KINDS), "g", [1], 0, 0)


if __name__ == "__main__":
    unittest.main()
