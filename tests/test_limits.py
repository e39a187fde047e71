"""[3], [4]: what stands at the limits is answered within seconds."""

import time
import unittest

from cellbills.checker import first_wrong, is_program, places_of, step_at
from cellbills.lexer import tokens
from cellbills.names import frame_cost, free_names, kept_names, names_at, reachable
from cellbills.printer import are_alike, renamed, written
from cellbills.reader import is_text, read_text, wrong_at
from cellbills.reading import read
from cellbills.values import depth, is_value, size
from tests.samples import LISTS, NIL, chain, one_function, row

SECONDS = 10


def many_calls():
    """Return a body of 400 steps, half of them calls, whose answers are all kept."""
    step = ("end", "x0")
    for number in reversed(range(199)):
        step = ("deed", f"y{number}", "plus", (f"x{number}", "n"), step)
    for number in reversed(range(199)):
        step = ("call", f"x{number}", "g", ("n",), step)
    return ("num", "z", 1, step)


def many_tests():
    """Return a body of 399 steps, half of them tests within one another."""
    step = ("end", "n")
    for number in range(199):
        ends = (("end", "n"), step) if number % 2 else (step, ("end", "n"))
        step = ("test", "c") + ends
    return step


def many_takes():
    """Return a body of 400 steps with 199 takes behind one another."""
    step = ("drop", "l199", ("end", "n"))
    for number in reversed(range(199)):
        step = ("take", f"l{number}", [
            ("nil", (), ("end", "n")), ("cons", (f"h{number}", f"l{number + 1}"), step)])
    return step


HEAD = [("n", "num"), ("c", "flag")]
BIG = ("program", LISTS, [("g", [("n", "num")], "num", ("end", "n"))]
       + [(f"c{number}", HEAD, "num", many_calls()) for number in range(15)]
       + [(f"t{number}", HEAD, "num", many_tests()) for number in range(12)]
       + [(f"l{number}", HEAD + [("l0", "list")], "num", many_takes()) for number in range(12)])


class LimitsTest(unittest.TestCase):

    def within(self, function, *arguments):
        start = time.monotonic()
        told = function(*arguments)
        self.assertLess(time.monotonic() - start, SECONDS, function.__name__)
        return told

    def test_a_program_of_forty_functions(self):
        self.assertEqual(len(BIG[2]), 40)
        self.assertIsNone(self.within(first_wrong, BIG))
        self.assertTrue(self.within(is_program, BIG))
        self.assertEqual(len(self.within(places_of, BIG, "c3")), 400)
        self.assertEqual(len(self.within(places_of, BIG, "t3")), 399)
        place = (1, 5) + (0,) * 398
        self.assertEqual(self.within(step_at, BIG, place)[0], "deed")
        self.assertEqual(len(self.within(names_at, BIG, place)), 2 + 1 + 199 + 197)
        self.assertEqual(self.within(reachable, BIG, "c4"), ["g", "c4"])
        self.assertTrue(self.within(are_alike, BIG, BIG))
        self.assertTrue(is_program(self.within(renamed, BIG)))

    def test_written_and_read_back(self):
        for name in ("c0", "l0", "t0"):
            function = next(own for own in BIG[2] if own[0] == name)
            program = ("program", LISTS, [BIG[2][0], function])
            text = self.within(written, program)
            self.assertTrue(are_alike(self.within(read_text, text), program))

    def test_a_body_of_400_steps(self):
        program = one_function(chain(400), [("a", "num")])
        self.assertTrue(self.within(is_program, program))
        self.assertEqual(self.within(read_text, written(program)), program)
        self.assertEqual(self.within(free_names, chain(400)), ["a"])
        self.assertEqual(self.within(kept_names, many_calls()[3]), ["n"])
        # The last call keeps the answers of the 198 ahead, and n.
        self.assertEqual(self.within(frame_cost, step_at(BIG, (1, 1) + (0,) * 200)), (199 + 2) // 3)
        self.assertEqual(self.within(read, BIG, "c0", [1, True], 1000, 100000)[1:], (1000, 400 + 199))

    def test_things_200_deep(self):
        thing = row(range(199))
        self.assertEqual(self.within(depth, thing), 200)
        self.assertEqual(self.within(size, thing), 199)
        self.assertTrue(self.within(is_value, BIG, "list", thing))
        arguments = [5, True, thing]
        self.assertEqual(self.within(read, BIG, "l0", arguments, 0, 100000), (("value", 5), 199, 201))

    def test_wide_things(self):
        kinds = [("choice", "w", [("four", ["w", "w", "w", "w"]), ("no1", [])])]
        program = ("program", kinds, [("f", [(f"p{n}", "w") for n in range(8)], "w", drops(7))])
        thing = ("node", "no1", ())
        for _ in range(7):
            thing = ("node", "four", (thing,) * 4)
        # 21845 things are too many; one part less deep they are 16385 and less.
        self.assertFalse(self.within(is_value, program, "w", thing))
        thing = ("node", "four", thing[2][:3] + (("node", "no1", ()),))
        self.assertTrue(self.within(is_value, program, "w", thing))
        told = self.within(read, program, "f", [thing] * 8, 0, 100000)
        self.assertEqual(told[1:], (7 * size(thing), 8))

    def test_100000_steps(self):
        text = """
            kind list = nil[] | cons[num, list]
            fun ever(n: num): num = let k = n + 1; go ever(k)
            fun open1(n: num): num = let r = open1(n); r
            fun open2(n: num, l: list): num = let m = l; let r = open2(n, nil[]); drop m; r
            fun down(n: num): num = if n < 1 then raise n else let l = cons[n, nil[]];
              let r = down(n - 1); drop l; r
        """
        program = read_text(text)
        self.assertEqual(self.within(read, program, "ever", [0], 0, 100000), (("on",), 0, 100000))
        self.assertEqual(self.within(read, program, "open1", [0], 10 ** 6, 100000), (("on",), 900000, 100000))
        self.assertEqual(self.within(read, program, "open2", [0, NIL], 10 ** 6, 100000),
                         (("on",), 950000, 100000))
        told = self.within(read, program, "down", [12499], 10 ** 6, 100000)
        self.assertEqual(told, (("fault", 0), 10 ** 6, 8 * 12499 + 4))

    def test_long_texts(self):
        start = "fun f(a: num): num = "
        for text in (start + "a + " * 399 + "a", start + "not " * 399 + "a", start + "let b = a; " * 9000 + "b",
                     "# " + "x" * 99990, start + " " * 99900 + "a", "kind a = b[]\n" * 7600,
                     start + "if a then a else " * 399 + "a"):
            self.assertLessEqual(len(text), 100000)
            self.assertTrue(self.within(is_text, text))
            self.within(tokens, text)
            self.within(read_text, text)
        self.assertEqual(self.within(wrong_at, "a" * 100000), (1, 1))
        self.assertEqual(self.within(wrong_at, "\n" * 99999 + "a"), (100000, 1))

    def test_parts_within_one_another(self):
        start = "fun f(a: num): num = "
        for deep in (40, 400):
            self.assertEqual(read_text(start + "(" * deep + "a" + ")" * deep)[2][0][3], ("end", "a"))
            told = read_text(start + "g(" * deep + "a" + ")" * deep)
            self.assertEqual(len(places_of(one_function(chain(400), [("a", "num")]), "f")), 400)
            step, many = told[2][0][3], 1
            while step[0] == "call":
                step, many = step[4], many + 1
            self.assertEqual(many, deep + 1)
            self.assertEqual(wrong_at(start + "(" * deep + "a" + ")" * (deep - 1)), (1, len(start) + 2 * deep + 1))
        ends = start + "if a then " * 40 + "a" + " else a" * 40
        self.assertEqual(wrong_at(ends), None)


def drops(many):
    """Return steps that drop all but the first one of so many parameters more."""
    step = ("end", "p0")
    for number in range(1, many + 1):
        step = ("drop", f"p{number}", step)
    return step


if __name__ == "__main__":
    unittest.main()
