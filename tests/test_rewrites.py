"""[33], [34]: rewritings, and what comes of them."""

import random
import unittest

from cellbills.bills import bill_or_refusal, least_bill
from cellbills.checker import first_wrong, is_program
from cellbills.errors import InvalidPaper, InvalidProgram
from cellbills.live import how_many_steps
from cellbills.passes import rewritings
from cellbills.peaks import peak
from cellbills.reader import read_text
from cellbills.reading import read
from cellbills.rewrites import is_rewriting, rewritten
from tests.checks import Checks
from tests.list_programs import list_arguments, list_program
from tests.plain_reading import all_steps
from tests.plain_rewrites import RULES, all_places, plain_rewritings, plain_rewritten
from tests.samples import KINDS, ODD, random_program, random_thing
from tests.test_reading import PROGRAM

KIND_TEXT = """
kind list = nil[] | cons[num, list]
kind pair = two[list, list]
kind trio = three[list, list, list] | mix[list, num, step]
calls step = (num) to num
calls last = (list) to num
calls turns = (list) to list
"""


class RewritesTest(Checks, unittest.TestCase):

    def program(self, text):
        told = read_text(KIND_TEXT + text)
        self.assertIsNone(first_wrong(told))
        return told

    def becomes(self, rule, ends, text, wanted, number=0):
        """Check what comes of a rule at a step of a function: the body that a text tells."""
        program, value = self.program(text), (rule, (1, number, 0) + ends)
        self.is_told(True, is_rewriting, program, value)
        told = self.told(rewritten, program, value)
        self.assertEqual(repr(told), repr(plain_rewritten(program, *value)))
        self.assertIsNone(first_wrong(told))
        if isinstance(wanted, str):
            wanted = read_text(KIND_TEXT + wanted)[2][0][3]
        self.assertEqual(told[2][number][3], wanted)
        self.assertEqual(told[2][:number] + told[2][number + 1:], program[2][:number] + program[2][number + 1:])
        self.assertEqual((told[0], told[1]), (program[0], program[1]))

    def stays(self, rule, ends, text, number=0):
        """Check that a rule does not stand at a step of a function."""
        program, value = self.program(text), (rule, (1, number, 0) + ends)
        self.is_told(False, is_rewriting, program, value)
        self.assertIsNone(plain_rewritten(program, *value))
        self.refused(rewritten, InvalidPaper, 1, program, value)


class RulesTest(RewritesTest):

    def test_last(self):
        self.becomes("last", (), "fun f(n: num): num = let r = f(n); r", "fun f(n: num): num = go f(n)")
        self.becomes("last", (0, 1), "fun f(n: num, c: flag): num = let m = 1; if c then n else let r = f(m, c); r",
                     "fun f(n: num, c: flag): num = let m = 1; if c then n else go f(m, c)")
        self.becomes("last", (), "fun f(n: num, g: step): num = let r = use g(n); r",
                     "fun f(n: num, g: step): num = go use g(n)")
        self.stays("last", (), "fun f(n: num): num = let r = f(n); n")
        self.stays("last", (), "fun f(n: num): num = let r = f(n); raise r")
        self.stays("last", (), "fun f(n: num): num = let r = f(n); let m = 1; r")
        self.stays("last", (), "fun f(n: num): num = let r = f(n); go f(r)")
        self.stays("last", (), "fun f(n: num): num = try r = f(n) then r catch e then e")
        self.stays("last", (), "fun f(n: num): num = go f(n)")

    def test_taken(self):
        self.becomes("taken", (), """fun f(n: num, l: list): list = let x = cons[n, l]; match x { nil[]: nil[]
            cons[h, t]: let y = cons[h, t]; let z = cons[h, y]; z }""",
                     "fun f(n: num, l: list): list = let y = cons[n, l]; let z = cons[n, y]; z")
        self.becomes("taken", (), "fun f(n: num, l: list): list = let x = cons[n, l]; match x { nil[]: nil[] cons[h, t]: t }",
                     "fun f(n: num, l: list): list = l")
        self.becomes("taken", (), "fun f(l: list): list = let x = nil[]; match x { nil[]: l cons[h, t]: drop t; l }",
                     "fun f(l: list): list = l")
        self.becomes("taken", (), """fun f(n: num, l: list, k: list): num = let x = two[l, k]; let m = n + n; let c = m < n;
            let d = nil[]; let y = cons[m, d]; let g = keep step h(); drop y; drop g; match x { two[a, b]: drop b; drop a; m }
            fun h(n: num): num = n""",
                     """fun f(n: num, l: list, k: list): num = let m = n + n; let c = m < n; let d = nil[];
            let y = cons[m, d]; let g = keep step h(); drop y; drop g; drop k; drop l; m""")
        # One name for two parts.
        self.becomes("taken", (), """fun f(n: num, l: list): num = let x = cons[n, l]; match x { nil[]: n cons[h, t]:
            let y = cons[h, t]; match y { nil[]: n cons[i, u]: drop u; h + i } }""",
                     """fun f(n: num, l: list): num = let y = cons[n, l]; match y { nil[]: n cons[i, u]: drop u; n + i }""")
        self.becomes("taken", (0, 1), """fun f(n: num, l: list, c: flag): list = let m = 1; if c then l else
            let x = cons[m, l]; match x { nil[]: nil[] cons[h, t]: if c then t else match t { nil[]: nil[] cons[i, u]: u } }""",
                     ("num", "m", 1, ("test", "c", ("end", "l"), ("test", "c", ("end", "l"), ("take", "l", [
                         ("nil", (), ("make", "b", "nil", (), ("end", "b"))), ("cons", ("i", "u"), ("end", "u"))])))))

    def test_what_does_not_follow_plainly(self):
        ends = "match x { nil[]: n cons[h, t]: drop t; h }"
        self.becomes("taken", (), "fun f(n: num, l: list): num = let x = cons[n, l]; " + ends,
                     "fun f(n: num, l: list): num = drop l; n")
        for between in ("let m = f(n, nil[]);", "let g = keep step k(); let m = use g(n);"):
            self.stays("taken", (), "fun f(n: num, l: list): num = let x = cons[n, l]; " + between + ends
                       + " fun k(n: num): num = n")
        test = "fun f(n: num, l: list): num = let c = yes; let x = cons[n, l]; if c then drop x; n else " + ends
        self.stays("taken", (0,), test)
        self.stays("dropped", (0,), test)
        self.stays("taken", (), "fun f(n: num, l: list, k: list): num = let x = cons[n, l]; match k { nil[]: drop x; n "
                   "cons[i, u]: drop u; " + ends + "}")
        self.stays("taken", (), "fun f(n: num, l: list): num = let x = cons[n, l]; try m = k(n) then " + ends
                   + " catch e then drop x; e fun k(n: num): num = n")
        # Another step uses it first.
        self.stays("taken", (), "fun f(n: num, l: list): list = let x = cons[n, l]; let y = cons[n, x]; y")
        self.stays("taken", (), "fun f(n: num, l: list): list = let x = cons[n, l]; x")
        self.stays("taken", (), "fun f(n: num, l: list): list = let x = f(n, l); match x { nil[]: nil[] cons[h, t]: t }")
        self.stays("taken", (), "fun f(n: num, l: list): num = let x = cons[n, l]; drop x; n")

    def test_dropped(self):
        self.becomes("dropped", (), "fun f(n: num, l: list): num = let x = cons[n, l]; drop x; n",
                     "fun f(n: num, l: list): num = drop l; n")
        self.becomes("dropped", (), "fun f(n: num): num = let x = nil[]; let m = 2; drop x; m",
                     "fun f(n: num): num = let m = 2; m")
        self.becomes("dropped", (), "fun f(n: num, l: list, k: list): num = let x = two[k, l]; let m = n; let i = 1; drop x; n",
                     "fun f(n: num, l: list, k: list): num = let i = 1; drop k; drop l; n")
        self.becomes("dropped", (0,), "fun f(n: num, l: list, g: step): num = let m = n + n; let x = mix[l, m, g]; drop x; m",
                     "fun f(n: num, l: list, g: step): num = let m = n + n; drop l; drop g; m")
        self.stays("dropped", (), "fun f(a: list, b: list, c: list): num = let x = three[a, b, c]; drop x; 1")
        self.becomes("dropped", (), """fun f(a: list, b: list, n: num): num = let x = keep last h(b, n, a); drop x; n
            fun h(b: list, n: num, a: list, l: list): num = drop a; drop l; drop b; n""",
                     "fun f(a: list, b: list, n: num): num = drop b; drop a; n")
        three = """fun f(a: list, b: list, c: list): num = let x = keep last h(a, b, c); drop x; 1
            fun h(a: list, b: list, c: list, l: list): num = drop a; drop b; drop c; drop l; 1"""
        self.stays("dropped", (), three)
        self.stays("dropped", (), "fun f(n: num, l: list): num = let x = cons[n, l]; let m = f(n, nil[]); drop x; n")
        self.stays("dropped", (), "fun f(n: num, l: list): num = let x = cons[n, l]; let y = cons[n, x]; drop y; n")
        self.stays("dropped", (), "fun f(n: num, l: list): num = drop l; n")
        self.stays("dropped", (), "fun f(n: num, l: list): list = let x = f(n, l); drop x; nil[]")

    def test_tested(self):
        self.becomes("tested", (0,), "fun f(n: num, l: list): num = let c = yes; if c then drop l; n else drop l; raise n",
                     "fun f(n: num, l: list): num = let c = yes; drop l; n")
        self.becomes("tested", (0, 0), "fun f(n: num): num = let c = no; let m = 2; if c then n else m + n",
                     ("flag", "c", False, ("num", "m", 2, ("deed", "a", "plus", ("m", "n"), ("end", "a")))))
        # Bound ahead of other tests, and tested twice.
        text = "fun f(n: num, d: flag): num = let c = no; if d then if c then 1 else 2 else if c then 3 else 4"
        told = ("flag", "c", False, ("test", "d", ("num", "b", 2, ("end", "b")),
                                     ("test", "c", ("num", "e", 3, ("end", "e")), ("num", "g", 4, ("end", "g")))))
        program = self.program(text)
        self.assertEqual(rewritten(program, ("tested", (1, 0, 0, 0, 0))),
                         plain_rewritten(program, "tested", (1, 0, 0, 0, 0)))
        self.assertEqual(rewritten(program, ("tested", (1, 0, 0, 0, 0)))[2][0][3][3][2][0], told[3][2][0])
        self.stays("tested", (0,), text)
        self.stays("tested", (), "fun f(c: flag): num = if c then 1 else 2")
        self.stays("tested", (0, 0), "fun f(c: flag): num = let d = yes; let e = not d; if e then 1 else 2")
        self.stays("tested", (), "fun f(n: num): num = let c = yes; if c then 1 else 2")

    def test_reckoned(self):
        self.becomes("reckoned", (0, 0), "fun f(n: num): num = let a = 2; let b = 3; let c = a + b; c + n",
                     ("num", "a", 2, ("num", "b", 3, ("num", "c", 5, ("deed", "d", "plus", ("c", "n"), ("end", "d"))))))
        for sign, one, other, told in (("+", 2 ** 63 - 1, 1, -2 ** 63), ("-", 0, 5, -5), ("*", 2 ** 62, 2, -2 ** 63),
                                       ("/", -7, 2, -4), ("/", 5, 0, 0), ("~", -7, 2, 1), ("~", 5, 0, 5),
                                       ("<", 1, 2, True), ("<", 2, 2, False), ("=", 2, 2, True)):
            kind = "flag" if isinstance(told, bool) else "num"
            self.becomes("reckoned", (0, 0), f"fun f(): {kind} = let a = {one}; let b = {other}; a {sign} b",
                         ("num", "a", one, ("num", "b", other, (kind, "c", told, ("end", "c")))))
        for text, told in (("a & b", False), ("a | b", True), ("b & b", False), ("a | a", True)):
            self.becomes("reckoned", (0, 0), f"fun f(): flag = let a = yes; let b = no; {text}",
                         ("flag", "a", True, ("flag", "b", False, ("flag", "c", told, ("end", "c")))))
        self.becomes("reckoned", (0,), "fun f(): flag = let a = yes; not a",
                     ("flag", "a", True, ("flag", "b", False, ("end", "b"))))
        self.stays("reckoned", (0,), "fun f(n: num): num = let a = 2; a + n")
        self.stays("reckoned", (0,), "fun f(n: num): num = let a = 2; n + a")
        self.stays("reckoned", (0, 0), "fun f(n: num): num = let a = n + n; let b = 2; a + b")
        self.stays("reckoned", (1, 0), "fun f(n: num, l: list): num = match l { nil[]: 1 cons[h, t]: drop t; h + h }")
        self.stays("reckoned", (), "fun f(): num = 1")

    def test_dead(self):
        self.becomes("dead", (), "fun f(n: num): num = let a = 2; n", "fun f(n: num): num = n")
        self.becomes("dead", (), "fun f(n: num): num = let a = yes; n", "fun f(n: num): num = n")
        self.becomes("dead", (), "fun f(n: num): num = let a = n + n; n", "fun f(n: num): num = n")
        self.becomes("dead", (0,), "fun f(n: num, l: list): num = drop l; let a = n < n; let b = 5; raise n",
                     "fun f(n: num, l: list): num = drop l; let b = 5; raise n")
        # A use on one way alone is one.
        self.stays("dead", (), "fun f(n: num, c: flag): num = let a = 2; if c then n else a")
        self.stays("dead", (), "fun f(n: num): num = let a = 2; let b = a + n; n")
        self.stays("dead", (), "fun f(n: num): num = let a = nil[]; drop a; n")
        self.stays("dead", (), "fun f(n: num): num = let a = f(n); n")
        self.stays("dead", (), "fun f(n: num, l: list): num = match l { nil[]: n cons[h, t]: drop t; n }")


class InlinedTest(RewritesTest):

    def test_an_end(self):
        self.becomes("inlined", (), "fun f(n: num): num = let x = g(n); x * x fun g(a: num): num = a + a",
                     ("deed", "w0", "plus", ("n", "n"), ("deed", "a", "times", ("w0", "w0"), ("end", "a"))))
        # A parameter that is the answer.
        self.becomes("inlined", (0,), "fun f(n: num): num = let m = 4; let x = g(n, m); x * m fun g(a: num, b: num): num = b",
                     ("num", "m", 4, ("deed", "a", "times", ("m", "m"), ("end", "a"))))

    def test_names(self):
        # Names that the calling function has are left out, wherever they are bound; x is among them.
        text = """fun f(w1: num, c: flag): num = if c then let w3 = 1; w3 + w1 else let w0 = g(w1); let w5 = w0 + w1; w5
            fun g(w1: num): num = let w2 = 1; let w9 = w2 + w1; let a = w9; let b = w9 * w1; let w0 = b - w2; w0 + w0"""
        program = self.program(text)
        told = rewritten(program, ("inlined", (1, 0, 0, 1)))
        self.assertEqual(told, plain_rewritten(program, "inlined", (1, 0, 0, 1)))
        inner = told[2][0][3][3]
        self.assertEqual([step[1] for step in all_steps(inner)], ["w2", "w4", "w6", "w7", "w8", "w5", "w5"])
        self.assertIsNone(first_wrong(told))

    def test_the_order_of_names(self):
        text = """fun f(l: list, n: num): num = let x = g(l, n); x
            fun g(l: list, n: num): num = try v = h(n) then match l { nil[]: raise v cons[a, b]: let s = a + v; drop b; raise s }
              catch e then let r = e + n; drop l; r
            fun h(n: num): num = n"""
        program = self.program(text)
        told = rewritten(program, ("inlined", (1, 0, 0)))
        self.assertEqual(told, plain_rewritten(program, "inlined", (1, 0, 0)))
        body = told[2][0][3]
        # v, the parts of the way, s, then e and r.
        self.assertEqual((body[1], body[4][2][1][1], body[4][2][1][2][1], body[5], body[6][1]),
                         ("w0", ("w1", "w2"), "w3", "w4", "w5"))

    def test_go_and_usego(self):
        self.becomes("inlined", (), "fun f(n: num): num = let x = g(n); x * n fun g(a: num): num = let b = a + a; go g(b)",
                     ("deed", "w0", "plus", ("n", "n"), ("call", "x", "g", ("w0",), (
                         "deed", "a", "times", ("x", "n"), ("end", "a")))))
        self.becomes("inlined", (), "fun f(n: num, s: step): num = let x = g(n, s); x * n fun g(a: num, s: step): num = go use s(a)",
                     ("use", "x", "s", ("n",), ("deed", "a", "times", ("x", "n"), ("end", "a"))))
        # Also to the calling function itself.
        self.becomes("inlined", (), "fun f(n: num): num = let x = g(n); x + n fun g(a: num): num = go f(a)",
                     ("call", "x", "f", ("n",), ("deed", "a", "plus", ("x", "n"), ("end", "a"))))

    def test_raises(self):
        text = """fun f(a: list, b: list): list = let x = tail(a); drop b; x
            fun tail(l: list): list = match l { nil[]: let z = 0; raise z cons[h, t]: t }"""
        self.becomes("inlined", (), text, ("take", "a", [
            ("nil", (), ("num", "w0", 0, ("drop", "b", ("raise", "w0")))), ("cons", ("w1", "w2"), ("drop", "b", ("end", "w2")))]))
        tail = " fun tail(l: list): list = match l { nil[]: let z = 0; raise z cons[h, t]: t }"
        # x, and what is bound behind the call, do not count; numbers neither.
        self.becomes("inlined", (), """fun f(a: list, n: num, m: num): num = let x = tail(a); let y = cons[n, nil[]];
            let z = cons[m, y]; drop x; drop z; n + m""" + tail, plain_rewritten(self.program("""
            fun f(a: list, n: num, m: num): num = let x = tail(a); let y = cons[n, nil[]];
            let z = cons[m, y]; drop x; drop z; n + m""" + tail), "inlined", (1, 0, 0))[2][0][3])
        self.stays("inlined", (), "fun f(a: list, b: list, c: list): list = let x = tail(a); drop b; drop c; x" + tail)
        self.stays("inlined", (), "fun f(a: list, b: list, c: step, k: flag): list = let x = tail(a); if k then drop b; drop c; x"
                   " else drop c; drop b; x" + tail)
        # Two that are handed to the call, none that is kept.
        self.becomes("inlined", (), """fun f(a: list, b: list): list = let x = both(a, b); x
            fun both(l: list, k: list): list = drop l; match k { nil[]: let z = 0; raise z cons[h, t]: t }""",
                     ("drop", "a", ("take", "b", [("nil", (), ("num", "w0", 0, ("raise", "w0"))),
                                                  ("cons", ("w1", "w2"), ("end", "w2"))])))
        # Without a raise as many as one likes.
        self.becomes("inlined", (), "fun f(a: list, b: list, c: list): list = let x = same(a); drop b; drop c; x fun same(l: list): list = l",
                     ("drop", "b", ("drop", "c", ("end", "a"))))

    def test_what_is_missing(self):
        self.stays("inlined", (), "fun f(n: num): num = let x = f(n); x")
        self.stays("inlined", (), "fun f(n: num): num = let x = g(n); x fun g(n: num): num = raise n")
        two = " fun g(n: num): num = let c = n < n; if c then n else "
        self.stays("inlined", (), "fun f(n: num): num = let x = g(n); x" + two + "n + n")
        self.stays("inlined", (), "fun f(n: num): num = let x = g(n); x" + two + "go g(n)")
        self.becomes("inlined", (), "fun f(n: num): num = let x = g(n); x" + two + "raise n",
                     ("deed", "w0", "less", ("n", "n"), ("test", "w0", ("end", "n"), ("raise", "n"))))
        self.stays("inlined", (), "fun f(n: num): num = go g(n) fun g(n: num): num = n")
        self.stays("inlined", (), "fun f(n: num): num = try x = g(n) then x catch e then e fun g(n: num): num = n")
        self.stays("inlined", (0,), "fun f(n: num): num = let s = keep step g(); use s(n) fun g(n: num): num = n")
        # A function that calls itself may be put into another one.
        self.becomes("inlined", (), "fun f(n: num): num = let x = g(n); x fun g(n: num): num = let y = g(n); y",
                     ("call", "w0", "g", ("n",), ("end", "w0")))

    def test_how_many_steps(self):
        def nums(many, last):
            step = last
            for number in range(many):
                step = ("num", f"n{number}", number, step)
            return step

        def program(ahead, inside, last=("end", "a"), behind=("end", "x")):
            return ("program", [], [("f", [("n", "num")], "num", nums(ahead, ("call", "x", "g", ("n",), behind))),
                                    ("g", [("a", "num")], "num", nums(inside, last))])
        for ahead, inside in ((200, 199), (398, 1), (0, 399)):
            value = ("inlined", (1, 0, 0) + (0,) * ahead)
            good = program(ahead, inside)
            self.is_told(True, is_rewriting, good, value)
            told = rewritten(good, value)
            self.assertEqual(how_many_steps(told, "f"), 400)
            self.assertTrue(is_program(told))
            if inside < 399:
                self.is_told(False, is_rewriting, program(ahead, inside + 1), value)
        # A go becomes a call: one step more.
        value = ("inlined", (1, 0, 0) + (0,) * 200)
        self.is_told(True, is_rewriting, program(200, 198, ("go", "g", ("a",))), value)
        self.is_told(False, is_rewriting, program(200, 199, ("go", "g", ("a",))), value)

    def test_how_many_steps_with_drops(self):
        def program(ahead, kept):
            step = ("call", "x", "g", ("n",), ("drop", "l", ("end", "x")) if kept else ("end", "x"))
            if not kept:
                step = ("drop", "l", step)
            for number in range(ahead):
                step = ("num", f"n{number}", number, step)
            inner = ("flag", "c", True, ("test", "c", ("end", "a"), ("test", "c", ("raise", "a"), ("raise", "a"))))
            return ("program", KINDS, [("f", [("n", "num"), ("l", "list")], "num", step), ("g", [("a", "num")], "num", inner)])
        # Of f ahead + 3 steps, of g 6 steps; the call and the end of g go. If l is kept it is
        # dropped in its rest, and ahead of each of the two raises.
        for kept, most in ((True, 400 - 3 - 6 + 2 - 2), (False, 400 - 3 - 6 + 2)):
            place = (1, 0, 0) + (0,) * (most + (0 if kept else 1))
            self.is_told(True, is_rewriting, program(most, kept), ("inlined", place))
            self.assertEqual(how_many_steps(rewritten(program(most, kept), ("inlined", place)), "f"), 400)
            self.is_told(False, is_rewriting, program(most + 1, kept), ("inlined", place + (0,)))


class AllTest(RewritesTest):

    def test_no_rewritings(self):
        program = self.program("fun f(n: num): num = let r = f(n); r")
        good = ("last", (1, 0, 0))
        self.is_told(True, is_rewriting, program, good)
        places = [list(good[1]), (1, 0), (1, 0, 1), (1, 0, 0, 0), (1, 0, 0, 1), (1, 0, 0, 0, 0), (1, 1, 0), (0, 0), (),
                  (True, 0, 0), (1, False, 0), (1, 0, False), (1, 0, 0, -1), (1, 0, 0, 10 ** 29), "100", None, 1]
        values = [list(good), good[:1], good + (0,), (good,), ("Last", good[1]), ("", good[1]), (None, good[1]),
                  (["last"], good[1]), (1, good[1]), ("dead", good[1]), ("end", good[1])]
        for value in values + [("last", place) for place in places] + ODD:
            self.is_told(False, is_rewriting, program, value)
            self.refused(rewritten, InvalidPaper, 1, program, value)

    def test_errors(self):
        for odd in ODD:
            if odd != ("program", [], []):
                self.refused(is_rewriting, InvalidProgram, 0, odd, None)
                self.refused(rewritten, InvalidProgram, 0, odd, None)

    def test_all_of_random_programs(self):
        seen = set()
        for seed in range(12):
            for program in (random_program(seed), list_program(seed), list_program(seed, 3, 8, 6)):
                rng = random.Random(seed)
                values = plain_rewritings(program)
                for value in values:
                    self.assertTrue(is_rewriting(program, value))
                    told = rewritten(program, value)
                    self.assertEqual(repr(told), repr(plain_rewritten(program, *value)))
                    self.assertTrue(is_program(told))
                    seen.add(value[0])
                places = all_places(program)
                for _ in range(30):
                    value = (rng.choice(RULES), rng.choice(places))
                    self.assertIs(is_rewriting(program, value), value in values)
        self.assertEqual(seen, set(RULES))

    def check_readings(self, program, told, name, arguments):
        """[34]: readings end alike, with as many cells, within no more steps; peaks are not greater."""
        for hand in (0, 2, 50):
            outcome, left, many = read(program, name, arguments, hand, 300)
            if outcome[0] in ("value", "fault"):
                other = read(told, name, arguments, hand, 300)
                self.assertEqual(other[:2], (outcome, left))
                self.assertLessEqual(other[2], many)
                self.assertEqual(read(told, name, arguments, hand, many), other)
        if read(program, name, arguments, 10 ** 6, 300)[0][0] in ("value", "fault"):
            self.assertLessEqual(peak(told, name, arguments, 300), peak(program, name, arguments, 300))

    def check_bills(self, program, told, name, arguments):
        """[34]: a bill stays, and the least one is not greater."""
        total, other = least_bill(program, name, arguments)[2], least_bill(told, name, arguments)
        self.assertEqual(other[0], "least")
        self.assertLessEqual(other[2][0] * total[1], total[0] * other[2][1])

    def test_what_comes_of_them(self):
        checked, rng = set(), random.Random(9)
        for seed in range(25):
            for program in (random_program(seed), list_program(seed), list_program(seed, 3, 8, 6)):
                values = rewritings(program)
                has_bill = bill_or_refusal(program)[0] == "bill"
                for value in rng.sample(values, min(len(values), 4)):
                    told = rewritten(program, value)
                    for name, parameters, _, _ in program[2]:
                        if program[1][1:]:
                            arguments = [random_thing(rng, program, kind) for _, kind in parameters]
                        else:
                            arguments = list_arguments(rng, parameters)
                        self.check_readings(program, told, name, arguments)
                    if has_bill:
                        self.check_bills(program, told, name, arguments)
                        checked.add(value[0])
        self.assertEqual(checked, set(RULES))

    def test_what_comes_of_a_program_of_many_calls(self):
        calls = (("saved", [("node", "nil", ()), 3]), ("up", [5]), ("calls4", [3, 1, 1, 1, 1]), ("deeper", [3, 3]))
        for value in rewritings(PROGRAM):
            told = rewritten(PROGRAM, value)
            for name, arguments in calls:
                self.check_readings(PROGRAM, told, name, arguments)


if __name__ == "__main__":
    unittest.main()
