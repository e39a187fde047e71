"""[15], [16], [17]: programs judged."""

import copy
import unittest

from cellbills.checker import first_wrong, is_program, places_of, step_at
from cellbills.errors import InvalidList, InvalidName, InvalidProgram
from tests.samples import EMPTY, KINDS, LISTS, ODD, chain, one_function, random_program, share_lists

# Functions that the bodies below may call: f is the one that is looked at.
OTHERS = [
    ("add", [("x", "num"), ("y", "num")], "num", ("end", "x")),
    ("turn", [("x", "list"), ("y", "list")], "list", ("drop", "x", ("end", "y"))),
    ("bare", [], "tree", ("flag", "b", True, ("make", "t", "leaf", ("b",), ("end", "t")))),
    ("wide", [(f"p{n}", "num") for n in range(6)], "num", ("end", "p0")),
    ("five", [(f"p{n}", "num") for n in range(5)], "num", ("end", "p0")),
    ("eight", [(f"p{n}", "num") for n in range(8)], "num", ("end", "p0")),
]
NAMES = [("n", "num"), ("m", "num"), ("c", "flag"), ("d", "flag")]
HERE = (1, 0, 0)


def wrong(body, parameters=(), answer="num"):
    """Return what is first wrong in a program with this body first, with n, m, c, d bound, too."""
    function = ("f", NAMES + list(parameters), answer, body)
    return first_wrong(("program", KINDS, [function] + OTHERS))


class StepTest(unittest.TestCase):
    """Of each step: what is right, and each thing that can be first wrong in it."""

    def right(self, body, parameters=(), answer="num"):
        self.assertIsNone(wrong(body, parameters, answer), body)

    def wrong(self, why, body, parameters=(), answer="num", place=HERE):
        self.assertEqual(wrong(body, parameters, answer), (place, why), body)

    def test_num(self):
        for number in (0, -2 ** 63, 2 ** 63 - 1):
            self.right(("num", "x", number, ("end", "x")))
        for number in (2 ** 63, -2 ** 63 - 1, True, None, "1", [1]):
            self.wrong("number", ("num", "x", number, ("end", "x")))
        # The number is looked at ahead of the name.
        self.wrong("number", ("num", "n", True, ("end", "x")))
        self.wrong("name", ("num", "X", 1, ("end", "X")))
        self.wrong("twice", ("num", "n", 1, ("end", "n")))
        self.wrong("form", ("num", 5, True, ("end", "n")))
        self.wrong("form", ("num", "x", 1))
        self.wrong("form", ("num", "x", 1, ("end", "x"), ("end", "x")))

    def test_flag(self):
        for flag in (True, False):
            self.right(("flag", "x", flag, ("end", "x")), answer="flag")
        for flag in (0, 1, None, "yes", []):
            self.wrong("form", ("flag", "x", flag, ("end", "x")), answer="flag")
        self.wrong("form", ("flag", "n", 1, ("end", "n")))
        self.wrong("name", ("flag", "let", True, ("end", "n")))
        self.wrong("twice", ("flag", "c", True, ("end", "n")))
        self.wrong("form", ("flag", ["x"], True, ("end", "n")))

    def test_deed(self):
        def deed(sign, ys, x="x", last="n"):
            return ("deed", x, sign, ys, ("end", last))
        for sign in ("plus", "minus", "times", "over", "rest"):
            self.right(deed(sign, ("n", "m"), last="x"))
            self.right(deed(sign, ("n", "n"), last="x"))
            self.wrong("kind", deed(sign, ("n", "c")))
            self.wrong("count", deed(sign, ("n", "m", "n")))
            self.wrong("count", deed(sign, ()))
        for sign in ("less", "same"):
            self.assertIsNone(wrong(deed(sign, ("n", "m"), last="x"), answer="flag"))
            self.wrong("kind", deed(sign, ("c", "d")))
        for sign in ("both", "any"):
            self.assertIsNone(wrong(deed(sign, ("c", "d"), last="x"), answer="flag"))
            self.wrong("kind", deed(sign, ("c", "n")))
        self.assertIsNone(wrong(deed("not", ("c",), last="x"), answer="flag"))
        self.wrong("count", deed("not", ("c", "d")))
        self.wrong("kind", deed("not", ("n",)))
        self.wrong("sign", deed("add", ("n", "m")))
        self.wrong("sign", deed("+", ()))
        self.wrong("count", deed("plus", ("none",)))
        self.wrong("unknown", deed("plus", ("none", "c")))
        self.wrong("kind", deed("plus", ("c", "none")))
        self.wrong("unknown", deed("plus", ("n", "x")))
        self.wrong("unknown", deed("plus", ("n", "None"), x="n"))
        self.wrong("name", deed("plus", ("n", "m"), x="1x"))
        self.wrong("twice", deed("plus", ("n", "m"), x="m"))
        self.wrong("form", deed(5, ("n", "m")))
        self.wrong("form", deed("plus", ["n", "m"]))
        self.wrong("form", deed("plus", ("n", 5)))
        self.wrong("form", deed("plus", ("n",) * 9))
        self.wrong("count", deed("plus", ("n",) * 8))

    def test_make(self):
        def make(constructor, ys, x="x"):
            return ("make", x, constructor, ys, ("end", x))
        tree = [("l", "list"), ("t", "tree"), ("s", "tree")]
        self.right(make("nil", ()), answer="list")
        self.right(make("cons", ("n", "l")), [("l", "list")], "list")
        self.right(make("fork", ("t", "l", "s")), tree, "tree")
        self.wrong("constructor", make("null", ()))
        self.wrong("constructor", make("list", ("none",)))
        self.wrong("count", make("cons", ("none",)))
        self.wrong("count", make("nil", ("n",)))
        self.wrong("unknown", make("cons", ("n", "none")))
        self.wrong("unknown", make("cons", ("none", "n")))
        self.wrong("kind", make("cons", ("c", "none")))
        self.wrong("kind", make("cons", ("n", "t")), tree)
        self.wrong("used", make("fork", ("t", "l", "t")), tree)
        # Used ahead of its being of another kind than is wanted.
        self.wrong("used", make("fork", ("t", "t", "t")), tree)
        self.wrong("name", make("nil", (), x="fun"))
        self.wrong("twice", make("nil", (), x="l"), [("l", "list")])
        self.wrong("form", make(["nil"], ()))
        self.wrong("form", make("nil", []))

    def test_take(self):
        lists = [("l", "list")]

        def take(name, *ways):
            return ("take", name, list(ways))
        nil, cons = ("nil", (), ("end", "n")), ("cons", ("h", "t"), ("drop", "t", ("end", "h")))
        self.right(take("l", nil, cons), lists)
        self.wrong("unknown", take("none", nil, cons))
        self.wrong("unknown", take("none"))
        self.wrong("kind", take("n", nil, cons))
        self.wrong("kind", take("g", nil, cons), [("g", "step")])
        for ways in ([], [nil], [cons], [cons, nil], [nil, cons, cons], [nil, nil, cons],
                     [nil, ("cone", ("h", "t"), 5)], [("leaf", ("b",), ("end", "n"))]):
            self.wrong("constructor", take("l", *ways), lists)
        self.wrong("constructor", take("l", ("nil", ("n",), 0)), lists)
        self.wrong("count", take("l", ("nil", ("N",), 0), cons), lists)
        self.wrong("count", take("l", nil, ("cons", ("h",), 0)), lists)
        self.wrong("count", take("l", nil, ("cons", ("N", "n", "t"), 0)), lists)
        self.wrong("name", take("l", nil, ("cons", ("H", "n"), 0)), lists)
        self.wrong("twice", take("l", nil, ("cons", ("n", "H"), 0)), lists)
        self.wrong("twice", take("l", nil, ("cons", ("h", "h"), 0)), lists)
        # A name that another way binds is bound in this body, too.
        two = [("t", "tree")]
        ways = [("leaf", ("b",), 0), ("fork", ("u", "v", "w"), 0), ("hold", ("b",), 0)]
        self.wrong("twice", take("t", *ways), two)
        self.wrong("form", take("l", nil, list(cons)), lists)
        self.wrong("form", take("l", nil, cons[:2]), lists)
        self.wrong("form", take("l", nil, cons + (5,)), lists)
        self.wrong("form", take("l", nil, ("cons", ["h", "t"], 0)), lists)
        self.wrong("form", take("l", nil, ("cons", ("h",) * 9, 0)), lists)
        self.wrong("form", take("l", (["nil"], (), 0), cons), lists)
        self.wrong("form", ("take", "l", (nil, cons)), lists)
        self.wrong("form", ("take", "l"), lists)
        # What stands behind the first way is looked at ahead of the second one's.
        self.wrong("unknown", take("l", ("nil", (), ("end", "h")), ("cons", ("h", "t"), 0)), lists,
                   place=HERE + (0,))
        self.wrong("form", take("l", nil, ("cons", ("h", "t"), 0)), lists, place=HERE + (1,))
        # Each way has its own names.
        self.wrong("left", take("l", nil, ("cons", ("h", "t"), ("end", "h"))), lists, place=HERE + (1,))

    def test_call(self):
        def call(f, ys, x="x"):
            return ("call", x, f, ys, ("end", x))
        lists = [("l", "list"), ("k", "list")]
        self.right(call("add", ("n", "m")))
        self.right(call("turn", ("k", "l")), lists, "list")
        self.right(call("bare", ()), answer="tree")
        self.right(call("f", ("n", "m", "c", "d")))
        self.wrong("function", call("cons", ("n", "l")))
        self.wrong("function", call("none", ()))
        self.wrong("count", call("add", ("none",)))
        self.wrong("count", call("bare", ("n",)))
        self.wrong("unknown", call("add", ("none", "c")))
        self.wrong("kind", call("add", ("c", "none")))
        self.wrong("used", call("turn", ("l", "l")), lists)
        self.wrong("unknown", call("add", ("n", "x")))
        self.wrong("name", call("add", ("n", "m"), "X"))
        self.wrong("twice", call("add", ("n", "m"), "m"))
        self.wrong("form", call("add", ("n", 5)))
        self.wrong("form", call(None, ("n", "m")))
        self.right(("call", "x", "eight", ("n",) * 8, ("end", "x")))

    def test_go(self):
        lists = [("l", "list"), ("k", "list")]
        self.right(("go", "add", ("n", "m")))
        self.right(("go", "turn", ("l", "k")), lists, "list")
        self.wrong("function", ("go", "nil", ()))
        self.wrong("count", ("go", "add", ("none",)))
        self.wrong("unknown", ("go", "add", ("n", "none")))
        self.wrong("kind", ("go", "add", ("n", "c")))
        self.wrong("used", ("go", "turn", ("l", "l")), lists)
        self.wrong("answer", ("go", "turn", ("l", "k")), lists)
        # The answer is looked at ahead of what is left.
        self.wrong("answer", ("go", "bare", ()), lists)
        self.wrong("left", ("go", "add", ("n", "m")), lists)
        self.wrong("left", ("go", "turn", ("l", "k")), lists + [("o", "list")], "list")
        self.wrong("form", ("go", "add", ("n", "m"), ("end", "n")))
        self.wrong("form", ("go", "add", ["n", "m"]))
        self.wrong("form", ("go", 5, ("n", "m")))

    def test_keep(self):
        def keep(kind, f, ys, x="x"):
            return ("keep", x, kind, f, ys, ("end", x))
        lists = [("l", "list")]
        self.right(keep("step", "add", ("n",)), answer="step")
        self.right(keep("step", "five", ("n",) * 4), answer="step")
        self.right(keep("join", "turn", ("l",)), lists, "join")
        self.right(keep("plant", "bare", ()), answer="plant")
        for kind in ("list", "num", "flag", "none"):
            self.wrong("kind", keep(kind, "none", ("none",)))
        self.wrong("function", keep("step", "none", ("none",)))
        self.wrong("count", keep("step", "add", ()))
        self.wrong("count", keep("step", "add", ("none", "none")))
        self.wrong("count", keep("step", "wide", ("n",) * 5))
        self.wrong("count", keep("plant", "add", ("none",)))
        self.wrong("shape", keep("plant", "add", ("none", "none")))
        self.wrong("shape", keep("join", "add", ("none",)))
        self.wrong("shape", keep("step", "turn", ("none",)))
        self.wrong("unknown", keep("step", "add", ("none",)))
        self.wrong("unknown", keep("step", "add", ("x",)))
        self.wrong("kind", keep("step", "add", ("c",)))
        self.wrong("used", ("drop", "l", keep("join", "turn", ("l",))), lists, place=HERE + (0,))
        self.wrong("name", keep("step", "add", ("n",), "use"))
        self.wrong("twice", keep("step", "add", ("n",), "n"))
        self.wrong("form", ("keep", "x", "step", "add", ["n"], ("end", "x")))
        self.wrong("form", ("keep", "x", 5, "add", ("n",), ("end", "x")))
        self.wrong("form", ("keep", "x", "step", "add", ("n",)))

    def test_shape_of_parameters_that_are_left(self):
        kinds = [("calls", "two", ["num", "flag"], "num")]
        body = ("keep", "k", "two", "g", ("a",), ("drop", "k", ("end", "a")))

        def told(parameters, answer):
            last = ("end", "n") if answer == "num" else ("end", "c")
            other = ("g", [("n", "num"), ("c", "flag")] + parameters, answer, last)
            return first_wrong(("program", kinds, [("f", [("a", "num")], "num", body), other]))
        self.assertEqual(told([("p", "flag")], "num"), (HERE, "shape"))
        self.assertEqual(told([("p", "num")], "num"), (HERE, "shape"))
        self.assertEqual(told([], "num"), (HERE, "count"))
        body = ("keep", "k", "two", "g", ("a", "b"), ("drop", "k", ("end", "a")))
        self.assertEqual(told([("p", "num"), ("q", "flag")], "num"), (HERE, "unknown"))
        self.assertEqual(told([("p", "num"), ("q", "flag")], "flag"), (HERE, "shape"))
        self.assertEqual(told([("p", "flag"), ("q", "num")], "num"), (HERE, "shape"))

    def test_use(self):
        def use(g, ys, x="x"):
            return ("use", x, g, ys, ("end", x))
        step, join = [("g", "step")], [("g", "join"), ("l", "list")]
        self.right(use("g", ("n",)), step)
        self.right(use("g", ("l",)), join, "list")
        self.right(use("g", ()), [("g", "plant")], "tree")
        self.wrong("unknown", use("none", ("n", "n")))
        self.wrong("kind", use("n", ("none", "none")))
        self.wrong("kind", use("l", ("none", "none")), join)
        self.wrong("count", use("g", ("none", "c")), step)
        self.wrong("count", use("g", ()), step)
        self.wrong("unknown", use("g", ("none",)), step)
        self.wrong("kind", use("g", ("c",)), step)
        self.wrong("used", use("g", ("g",)), step)
        self.wrong("used", ("drop", "g", use("g", ("none", "none"))), step, place=HERE + (0,))
        self.wrong("name", use("g", ("n",), "use"), step)
        self.wrong("twice", use("g", ("n",), "g"), step)
        self.wrong("form", use(5, ("n",)), step)
        self.wrong("form", ("use", "x", "g", ["n"], ("end", "x")), step)

    def test_usego(self):
        step, join = [("g", "step")], [("g", "join"), ("l", "list")]
        self.right(("usego", "g", ("n",)), step)
        self.right(("usego", "g", ("l",)), join, "list")
        self.wrong("unknown", ("usego", "none", ("n",)))
        self.wrong("kind", ("usego", "n", ()))
        self.wrong("count", ("usego", "g", ("none", "none")), step)
        self.wrong("unknown", ("usego", "g", ("none",)), step)
        self.wrong("kind", ("usego", "g", ("c",)), step)
        self.wrong("used", ("usego", "g", ("g",)), step)
        self.wrong("answer", ("usego", "g", ("n",)), step, "flag")
        self.wrong("answer", ("usego", "g", ("n",)), step + [("l", "list")], "flag")
        self.wrong("left", ("usego", "g", ("n",)), step + [("l", "list")])
        self.wrong("form", ("usego", "g", ("n",), ("end", "n")), step)

    def test_drop(self):
        for kind in ("list", "tree", "step", "join"):
            self.right(("drop", "x", ("end", "n")), [("x", kind)])
        self.wrong("kind", ("drop", "n", ("end", "n")))
        self.wrong("kind", ("drop", "c", ("end", "n")))
        self.wrong("unknown", ("drop", "none", ("end", "n")))
        self.wrong("used", ("drop", "x", ("drop", "x", ("end", "n"))), [("x", "list")], place=HERE + (0,))
        self.wrong("form", ("drop", "x"))
        self.wrong("form", ("drop", None, ("end", "n")))

    def test_raise(self):
        self.right(("raise", "n"), answer="tree")
        self.wrong("unknown", ("raise", "none"))
        self.wrong("kind", ("raise", "c"))
        self.wrong("kind", ("raise", "l"), [("l", "list")])
        self.wrong("left", ("raise", "n"), [("l", "list")])
        self.wrong("form", ("raise",))
        self.wrong("form", ("raise", 5))
        self.wrong("form", ("raise", "n", ("end", "n")))

    def test_try(self):
        def attempt(f, ys, rest=("end", "x"), other=("end", "e"), x="x", n="e"):
            return ("try", x, f, ys, rest, n, other)
        lists = [("l", "list"), ("k", "list")]
        self.right(attempt("add", ("n", "m")))
        self.right(attempt("turn", ("l", "k"), ("drop", "x", ("end", "n"))), lists)
        self.wrong("function", attempt("nil", ()))
        self.wrong("count", attempt("add", ("none",)))
        self.wrong("unknown", attempt("add", ("none", "c")))
        self.wrong("kind", attempt("add", ("n", "c")))
        self.wrong("used", attempt("turn", ("l", "l")), lists)
        self.wrong("name", attempt("add", ("n", "m"), x="X", n="n"))
        self.wrong("twice", attempt("add", ("n", "m"), x="n", n="N"))
        self.wrong("name", attempt("add", ("n", "m"), n="no"))
        self.wrong("twice", attempt("add", ("n", "m"), n="n"))
        self.wrong("twice", attempt("add", ("n", "m"), n="x"))
        # The name of the answer is bound behind an answer alone, that of the number behind a fault.
        self.wrong("unknown", attempt("add", ("n", "m"), ("end", "e")), place=HERE + (0,))
        self.wrong("unknown", attempt("add", ("n", "m"), other=("end", "x")), place=HERE + (1,))
        # But it is bound in the body from here on.
        self.wrong("twice", attempt("add", ("n", "m"), ("num", "e", 1, ("end", "e"))), place=HERE + (0,))
        self.wrong("left", attempt("turn", ("l", "k"), ("end", "n")), lists, place=HERE + (0,))
        more = lists + [("o", "list")]
        rest = ("drop", "x", ("drop", "o", ("end", "n")))
        self.wrong("left", attempt("turn", ("l", "k"), rest), more, place=HERE + (1,))
        self.right(attempt("turn", ("l", "k"), rest, ("drop", "o", ("end", "e"))), more)
        self.wrong("form", attempt("add", ("n", "m"), n=5))
        self.wrong("form", attempt("add", ["n", "m"]))
        self.wrong("form", attempt("add", ("n", "m"))[:6])

    def test_test(self):
        self.right(("test", "c", ("end", "n"), ("end", "m")))
        self.wrong("unknown", ("test", "none", ("end", "n"), ("end", "m")))
        self.wrong("kind", ("test", "n", ("end", "n"), ("end", "m")))
        self.wrong("form", ("test", "c", ("end", "n")))
        self.wrong("form", ("test", 5, ("end", "n"), ("end", "n")))
        lists = [("l", "list")]
        drop = ("drop", "l", ("end", "n"))
        self.right(("test", "c", drop, drop), lists)
        self.wrong("left", ("test", "c", drop, ("end", "n")), lists, place=HERE + (1,))
        self.wrong("left", ("test", "c", ("end", "n"), drop), lists, place=HERE + (0,))
        # A name that is bound on one way is not bound on the other one, and not anew.
        one = ("num", "x", 1, ("end", "x"))
        self.wrong("twice", ("test", "c", one, one), place=HERE + (1,))
        self.wrong("unknown", ("test", "c", one, ("end", "x")), place=HERE + (1,))
        # All behind yes comes ahead of what is behind no.
        self.wrong("kind", ("test", "c", ("drop", "n", 5), 5), place=HERE + (0,))
        self.wrong("form", ("test", "c", ("num", "x", 1, 5), 5), place=HERE + (0, 0))

    def test_end(self):
        self.right(("end", "n"))
        self.right(("end", "l"), [("l", "list")], "list")
        self.wrong("unknown", ("end", "none"))
        self.wrong("answer", ("end", "c"))
        self.wrong("answer", ("end", "l"), [("l", "list")])
        self.wrong("answer", ("end", "c"), [("l", "list")])
        self.wrong("left", ("end", "n"), [("l", "list")])
        self.wrong("used", ("drop", "l", ("end", "l")), [("l", "list")], place=HERE + (0,))
        self.wrong("form", ("end",))
        self.wrong("form", ("end", ["n"]))

    def test_what_is_no_step(self):
        for value in ODD:
            if value != ("end", "a"):
                self.wrong("form", value)
                self.wrong("form", ("num", "x", 1, value), place=HERE + (0,))
        for head in ("nums", "", "End", None, 5, ("end",), ["end"]):
            self.wrong("form", (head, "n"))
        self.wrong("form", ["end", "n"])
        self.wrong("form", {"end": "n"})


class WholeTest(unittest.TestCase):

    def check(self, value, *wanted):
        self.assertEqual(first_wrong(value), wanted[0] if wanted else None, value)
        self.assertIs(is_program(value), not wanted)

    def test_right_ones(self):
        for value in (EMPTY, ("program", KINDS, []), ("program", KINDS, OTHERS)):
            self.check(value)
        for seed in range(40):
            self.check(random_program(seed))

    def test_form_of_the_whole(self):
        for value in ODD:
            if value != EMPTY:
                self.check(value, ((), "form"))
        for value in (["program", [], []], ("program", [], [], []), ("program", (), []),
                      ("program", [], ()), ("programs", [], []), ("program", {}, []), (5, [], [])):
            self.check(value, ((), "form"))

    def test_too_many(self):
        kinds = [("choice", f"k{n}", [(f"m{n}", [])]) for n in range(13)]
        functions = [(f"f{n}", [], "num", ("num", "x", 1, ("end", "x"))) for n in range(41)]
        self.check(("program", kinds[:12], functions[:40]))
        self.check(("program", kinds, functions[:40]), ((), "many"))
        self.check(("program", kinds[:12], functions), ((), "many"))
        # The whole comes ahead of all that stands in it.
        self.check(("program", [5] * 13, []), ((), "many"))
        self.check(("program", [5], [5] * 41), ((), "many"))

    def test_declarations(self):
        good = ("choice", "k", [("a", []), ("b", ["num"])])
        rows = [
            ("form", ("choice", "K", [])), ("form", ("choice", "K", [("A", ["q"])] * 9)),
            ("form", ("choice", "K", [("A", ["q"] * 5)])), ("form", ("calls", "K", ["q"] * 5, "q")),
            ("form", ["choice", "l", [("c", [])]]), ("form", ("calls", "K", [], 5)), ("form", None),
            ("form", ("choice", 5, [("A", ["q"])])), ("form", ("choice", "K", [(5, ["q"])])),
            ("form", ("calls", 5, ["q"], "q")), ("form", ("choice", "K", [("A", "q")])),
            ("name", ("choice", "K", [("a", ["q"])])), ("name", ("choice", "k", [("A", ["q"])])),
            ("name", ("calls", "num", ["q"], "q")), ("name", ("choice", "l" * 31, [("c", [])])),
            ("name", ("choice", "l", [("a", []), ("flag", [])])),
            ("twice", ("choice", "k", [("c", ["q"])])), ("twice", ("calls", "k", ["q"], "q")),
            ("twice", ("choice", "l", [("c", ["q"]), ("b", [])])),
            ("twice", ("choice", "l", [("c", ["q"]), ("c", [])])),
            ("kind", ("choice", "l", [("c", []), ("d", ["num", "q"])])), ("kind", ("calls", "l", ["a"], "num")),
            ("kind", ("calls", "l", [], "a"))]
        for why, declaration in rows:
            self.check(("program", [good, declaration], [5]), ((0, 1), why))
        # Names that are no kinds are looked for behind all else of all declarations.
        self.check(("program", [("choice", "k", [("a", ["q"])]), ("choice", "k", [("b", [])])], []),
                   ((0, 1), "twice"))
        self.check(("program", [("choice", "k", [("a", ["q"])]), ("calls", "l", ["r"], "s")], []),
                   ((0, 0), "kind"))
        self.check(("program", [("choice", "k", [("a", ["l"])]), ("calls", "l", ["k"], "s")], []),
                   ((0, 1), "kind"))
        self.check(("program", [("choice", "K", [("a", [])]), 5], []), ((0, 0), "name"))

    def test_functions(self):
        good = ("f", [("n", "num")], "num", 5)
        rows = [
            ("form", ["g", [], "num", ("end", "n")]), ("form", ("g", [], "num")),
            ("form", ("g", (), "num", 5)), ("form", ("G", [("n", "q")] * 9, "q", 5)),
            ("form", (5, [], "num", 5)), ("form", ("g", [], None, 5)), ("form", ("G", [("n",)], "q", 5)),
            ("form", ("G", [["n", "num"]], "q", 5)), ("form", ("G", [("n", 5)], "q", 5)),
            ("form", ("G", [(5, "num")], "q", 5)), ("form", None), ("form", ("g", [], "num", 5, 5)),
            ("name", ("G", [("n", "q"), ("n", "q")], "q", 5)), ("name", ("f", [("N", "q")], "q", 5)),
            ("name", ("f", [("n", "q"), ("n" * 31, "q")], "q", 5)), ("name", ("keep", [], "num", 5)),
            ("twice", ("f", [], "q", 5)), ("twice", ("nil", [("n", "q")], "q", 5)),
            ("twice", ("g", [("n", "q"), ("m", "num"), ("n", "q")], "q", 5)),
            ("kind", ("g", [("n", "num"), ("m", "q")], "num", 5)), ("kind", ("g", [], "nil", 5)),
            ("kind", ("g", [], "f", 5))]
        for why, function in rows:
            self.check(("program", LISTS, [good, function]), ((1, 1), why))
        # One function after the other, and bodies behind all of them.
        self.check(("program", LISTS, [("f", [], "q", 5), 5]), ((1, 0), "kind"))
        self.check(("program", LISTS, [("f", [], "num", 5), ("f", [], "num", 5)]), ((1, 1), "twice"))
        self.check(("program", LISTS, [good, ("list", [], "num", 5)]), ((1, 0, 0), "form"))
        # Declarations ahead of functions.
        self.check(("program", LISTS * 2, [5]), ((0, 1), "twice"))

    def test_parameters(self):
        self.check(("program", [], [("f", [(f"p{n}", "num") for n in range(8)], "num", ("end", "p7"))]))
        self.check(("program", [], [("f", [(f"p{n}", "num") for n in range(9)], "num", ("end", "p8"))]),
                   ((1, 0), "form"))

    def test_names_are_bound_in_one_body_alone(self):
        same = [(name, [("n", "num")], "num", ("num", "x", 1, ("end", "x"))) for name in ("f", "g", "x")]
        self.check(("program", [], same))

    def test_many_steps(self):
        self.check(one_function(chain(400), [("a", "num")]))
        self.check(one_function(chain(401), [("a", "num")]), ((1, 0) + (0,) * 401, "many"))
        # That there are too many is seen ahead of what is wrong with the next one, not of those ahead.
        self.check(one_function(chain(401, 5), [("a", "num")]), ((1, 0) + (0,) * 401, "many"))
        self.check(one_function(chain(400, 5), [("a", "num")]), ((1, 0) + (0,) * 400, "form"))
        first = [one_function(chain(400), [("a", "num")])[2][0], ("g", [("a", "num")], "num", chain(400))]
        self.check(("program", [], first))

    def test_many_steps_on_several_ways(self):
        def body(many):
            # The end first, then what the test behind no leads to.
            step = ("end", "n")
            for _ in range((many - 1) // 2):
                step = ("test", "c", ("end", "n"), step)
            return step
        both = [("n", "num"), ("c", "flag")]
        self.check(one_function(body(399), both))
        self.check(one_function(("num", "x", 1, body(399)), both))
        wrong = one_function(body(401), both)
        self.check(wrong, ((1, 0, 0) + (1,) * 200, "many"))
        # Steps that stand twice are looked at twice.
        step = ("end", "n")
        for _ in range(100):
            step = ("test", "c", step, step)
        self.assertEqual(first_wrong(one_function(step, both))[1], "many")

    def test_takes_behind_one_another(self):
        kinds = [("choice", "w", [("box", ["w"]), ("no1", [])])]
        for many in (133, 199):
            step = ("drop", "w0", ("end", "n"))
            for number in range(many):
                end = ("end", "n") if number % 2 else ("raise", "n")
                step = ("take", f"w{number + 1}", [("box", (f"w{number}",), step), ("no1", (), end)])
            program = one_function(step, [("n", "num"), (f"w{many}", "w")], kinds=kinds)
            self.check(program)

    def test_beyond_a_limit_that_refuses_nothing(self):
        kinds = [("choice", "w", [("box", ["w"])])]
        step = ("drop", "w398", ("raise", "n"))
        for number in reversed(range(398)):
            step = ("take", f"w{number}", [("box", (f"w{number + 1}",), step)])
        self.assertIs(is_program(one_function(step, [("n", "num"), ("w0", "w")], kinds=kinds)), True)

    def test_arguments_stay(self):
        program = random_program(5)
        same = copy.deepcopy(program)
        first_wrong(program)
        is_program(program)
        self.assertEqual(program, same)


class OddValuesTest(unittest.TestCase):
    """Any value wherever one likes: no error, and a word that the document names."""

    WORDS = {"form", "many", "name", "twice", "kind", "number", "sign", "count", "constructor", "function",
             "shape", "unknown", "used", "answer", "left"}

    def replaced(self, value, odd):
        """Yield copies of a value with an odd one in the place of each part."""
        yield odd
        if isinstance(value, (list, tuple)):
            for at in range(len(value)):
                for part in self.replaced(value[at], odd):
                    yield value[:at] + type(value)([part]) + value[at + 1:]

    def test_odd_values(self):
        body = ("take", "l", [("nil", (), ("try", "x", "f", ("n", "k"), ("end", "x"), "e", ("raise", "e"))),
                              ("cons", ("h", "t"), ("keep", "y", "step", "add", ("h",), ("usego", "y", ("n",))))])
        program = ("program", LISTS + [("calls", "step", ["num"], "num")], [
            ("f", [("n", "num"), ("l", "list")], "num", body), OTHERS[0]])
        for odd in ODD:
            for value in self.replaced(program, odd):
                told = first_wrong(value)
                if told is not None:
                    self.assertIn(told[1], self.WORDS)
                    self.assertIsInstance(told[0], tuple)
                self.assertIs(is_program(value), told is None)


class PlacesTest(unittest.TestCase):

    BODY = ("test", "c", ("try", "x", "f", ("c", "n"), ("end", "x"), "e", ("num", "y", 1, ("end", "y"))),
            ("end", "n"))
    PROGRAM = ("program", LISTS, [("f", [("c", "flag"), ("n", "num")], "num", BODY), (
        "g", [("l", "list")], "list", ("take", "l", [
            ("nil", (), ("make", "z", "nil", (), ("end", "z"))),
            ("cons", ("h", "t"), ("end", "t"))]))])

    def test_places_of(self):
        self.assertEqual(places_of(self.PROGRAM, "f"), [
            (1, 0, 0), (1, 0, 0, 0), (1, 0, 0, 0, 0), (1, 0, 0, 0, 1), (1, 0, 0, 0, 1, 0), (1, 0, 0, 1)])
        self.assertEqual(places_of(self.PROGRAM, "g"),
                         [(1, 1, 0), (1, 1, 0, 0), (1, 1, 0, 0, 0), (1, 1, 0, 1)])
        for seed in range(20):
            program = random_program(seed)
            for function in program[2]:
                places = places_of(program, function[0])
                self.assertEqual(places, sorted(places))

    def test_step_at(self):
        self.assertEqual(step_at(self.PROGRAM, (1, 0, 0)), self.BODY)
        self.assertEqual(step_at(self.PROGRAM, (1, 0, 0, 0, 1)), ("num", "y", 1, ("end", "y")))
        self.assertEqual(step_at(self.PROGRAM, (1, 1, 0)), self.PROGRAM[2][1][3])
        self.assertEqual(step_at(self.PROGRAM, (1, 1, 0, 1)), ("end", "t"))

    def test_lists_are_new(self):
        told = step_at(self.PROGRAM, (1, 1, 0))
        self.assertFalse(share_lists(self.PROGRAM, told))
        told[2].clear()
        self.assertEqual(len(step_at(self.PROGRAM, (1, 1, 0))[2]), 2)
        # Ways that are one list object in the program are two in what is returned.
        ways = [("nil", (), ("end", "n")), ("cons", (), ("end", "n"))]
        kinds = [("choice", "list", [("nil", []), ("cons", [])])]
        body = ("test", "c", ("take", "l", ways), ("take", "l", ways))
        parameters = [("c", "flag"), ("n", "num"), ("l", "list")]
        told = step_at(one_function(body, parameters, kinds=kinds), (1, 0, 0))
        self.assertEqual(told, body)
        self.assertFalse(share_lists([ways], told))

    def test_what_is_no_place(self):
        places = [(), (0,), (0, 0), (0, 0, 0), (1,), (1, 0), (1, 2, 0), (1, 0, 1), (1, 0, 0, 2), (2, 0, 0),
                  (1, 0, 0, 0, 2), (1, 0, 0, 1, 0), (1, 0, 0, -1), (1, -1, 0), (1, 0, 0, 0, 0, 0),
                  (1, True, 0), (1, 0, False), (True, 0, 0), (1, 0, 0, True), (1, 0, 0, "0"), [1, 0, 0],
                  (1, 0, 0, None), (1, 10 ** 29, 0), (1, 0, 0, 10 ** 29), ((1, 0, 0),), "100", (1, 0, 0, ())]
        for place in places + [odd for odd in ODD if odd != (1, 0, 0)]:
            with self.assertRaises(InvalidList) as caught:
                step_at(self.PROGRAM, place)
            self.assertIs(caught.exception.value, place)

    def test_errors(self):
        for program in (5, None, ("program", [], [5]), self.PROGRAM[:2]):
            for function in (step_at, places_of):
                with self.assertRaises(InvalidProgram) as caught:
                    function(program, ["nor a place"])
                self.assertIs(caught.exception.value, program)
        for name in ODD + ["h", "nil", "list", "F"]:
            with self.assertRaises(InvalidName) as caught:
                places_of(self.PROGRAM, name)
            self.assertIs(caught.exception.value, name)


if __name__ == "__main__":
    unittest.main()
