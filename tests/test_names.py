"""[18], [19]: names in bodies, and functions that are come to."""

import unittest

from cellbills.checker import places_of, step_at
from cellbills.errors import InvalidList, InvalidName, InvalidProgram, InvalidRows
from cellbills.names import frame_cost, free_names, kept_names, names_at, reachable
from tests import plain_reading
from tests.samples import LISTS, ODD, chain, one_function, random_program

END = ("end", "e")
STEPS = {
    "num": ("num", "x", 1, END),
    "flag": ("flag", "x", True, END),
    "deed": ("deed", "x", "plus", ("b", "a"), END),
    "make": ("make", "x", "cons", ("b", "a"), END),
    "take": ("take", "y", [("nil", (), END), ("cons", ("h", "t"), ("go", "f", ("t", "q")))]),
    "call": ("call", "x", "f", ("b", "a"), END),
    "go": ("go", "f", ("b", "a")),
    "keep": ("keep", "x", "step", "f", ("b", "a"), END),
    "use": ("use", "x", "g", ("b", "a"), END),
    "usego": ("usego", "g", ("b", "a")),
    "drop": ("drop", "x", END),
    "raise": ("raise", "n"),
    "try": ("try", "x", "f", ("b", "a"), ("end", "x"), "n", ("end", "m")),
    "test": ("test", "c", ("end", "a"), END),
    "end": END,
}


def using(names, last=END):
    """Return steps that use each of these names once."""
    for name in names:
        last = ("deed", "of" + name, "not", (name,), last)
    return last


class FreeNamesTest(unittest.TestCase):

    def test_each_step(self):
        wanted = {"num": "e", "flag": "e", "deed": "abe", "make": "abe", "take": "eqy", "call": "abe",
                  "go": "ab", "keep": "abe", "use": "abeg", "usego": "abg", "drop": "ex", "raise": "n",
                  "try": "abm", "test": "ace", "end": "e"}
        for head, step in STEPS.items():
            self.assertEqual(free_names(step), list(wanted[head]), head)

    def test_used_and_bound_behind(self):
        # What the step or one behind it binds is left out, wherever it is used.
        self.assertEqual(free_names(("deed", "s", "plus", ("x", "y"), ("num", "x", 1, ("end", "s")))), ["y"])
        self.assertEqual(free_names(("num", "x", 1, ("end", "x"))), [])
        self.assertEqual(free_names(("test", "c", ("num", "x", 1, ("end", "x")), ("end", "x"))), ["c"])

    def test_order(self):
        names = ("b", "aa", "z1", "a", "z", "a1")
        self.assertEqual(free_names(("go", "f", names)), ["a", "a1", "aa", "b", "z", "z1"])

    def test_on_one_way_alone(self):
        step = ("take", "y", [("nil", (), ("end", "p")), ("cons", ("h", "t"), ("raise", "q"))])
        self.assertEqual(free_names(step), ["p", "q", "y"])


class KeptNamesTest(unittest.TestCase):

    def test_each_step(self):
        wanted = {"call": ["e"], "use": ["e"], "try": ["m"]}
        for head, step in STEPS.items():
            self.assertEqual(kept_names(step), wanted.get(head, []), head)

    def test_call_and_use(self):
        for first in (("call", "x", "f", ("p",)), ("use", "x", "g", ("p",))):
            self.assertEqual(kept_names(first + (using("rqp", ("end", "x")),)), ["p", "q", "r"])
            self.assertEqual(kept_names(first + (("end", "x"),)), [])
            # What is bound behind it is not kept.
            self.assertEqual(kept_names(first + (("num", "y", 1, ("go", "f", ("y", "x", "z"))),)), ["z"])

    def test_try(self):
        def attempt(rest, other):
            return ("try", "x", "f", ("p",), rest, "n", other)
        self.assertEqual(kept_names(attempt(("end", "x"), ("end", "n"))), [])
        self.assertEqual(kept_names(attempt(using("ba", ("end", "x")), using("cb", ("end", "n")))), list("abc"))
        # Behind an answer n is a name like others, behind a fault x is.
        self.assertEqual(kept_names(attempt(("end", "n"), ("end", "x"))), ["n", "x"])

    def test_frame_cost(self):
        names = [f"k{number}" for number in range(12)]
        calls, tries = [1, 1, 1, 1, 2, 2, 2, 3, 3, 3, 4, 4, 4], [1, 1, 2, 2, 2, 3, 3, 3, 4, 4, 4, 5, 5]
        for many in range(13):
            rest = using(names[:many], ("end", "x"))
            self.assertEqual(frame_cost(("call", "x", "f", (), rest)), calls[many])
            self.assertEqual(frame_cost(("use", "x", "g", (), rest)), calls[many])
            half = many // 2
            step = ("try", "x", "f", (), using(names[:half], ("end", "x")), "n",
                    using(names[half:many], ("end", "n")))
            self.assertEqual(frame_cost(step), tries[many])
            step = ("try", "x", "f", (), rest, "n", using(names[:many], ("end", "n")))
            self.assertEqual(frame_cost(step), tries[many])
        for head, step in STEPS.items():
            if head not in ("call", "use", "try"):
                self.assertEqual(frame_cost(step), 0)

    def test_random_programs(self):
        for seed in range(25):
            for function in random_program(seed)[2]:
                for step in plain_reading.all_steps(function[3]):
                    self.assertEqual(free_names(step), plain_reading.free(step))
                    self.assertEqual(kept_names(step), plain_reading.kept(step))
                    self.assertEqual(frame_cost(step), plain_reading.cost(step))


class FormsTest(unittest.TestCase):

    FUNCTIONS = (free_names, kept_names, frame_cost)

    def refused(self, step):
        for function in self.FUNCTIONS:
            with self.assertRaises(InvalidRows) as caught:
                function(step)
            self.assertIs(caught.exception.value, step)

    def test_what_is_no_step(self):
        for odd in ODD:
            if odd != ("end", "a"):
                self.refused(odd)
        for head, step in STEPS.items():
            self.refused(list(step))
            self.refused(step[:-1])
            self.refused(step + (1,))
            self.refused((head + "s",) + step[1:])
            self.refused((head, 5) + step[2:])
            if head not in ("go", "usego", "raise", "end", "take", "try"):
                for odd in ODD:
                    if odd != ("end", "a"):
                        self.refused(step[:-1] + (odd,))

    def test_what_is_wrong_behind(self):
        self.refused(("test", "c", END, 5))
        self.refused(("test", "c", END, ("test", "c", ("end", 5), END)))
        self.refused(("take", "y", [("nil", (), END), ("cons", ("h", "t"), None)]))
        self.refused(("take", "y", [("nil", [], END)]))
        self.refused(("take", "y", (("nil", (), END),)))
        self.refused(("take", "y", [("nil", ("a",) * 9, END)]))
        self.refused(("go", "f", ("a",) * 9))
        self.refused(("try", "x", "f", (), 5, "n", END))
        self.refused(("try", "x", "f", (), END, "n", 5))
        self.refused(("try", "x", "f", (), END, 5, END))

    def test_what_is_not_looked_at(self):
        self.assertEqual(free_names(("num", "X", None, ("end", "let"))), ["let"])
        self.assertEqual(free_names(("flag", "x", 5, ("deed", "", "??", ("",) * 8, ("end", "x")))), [])
        self.assertEqual(free_names(("flag", "x", [[]], ("deed", "y", "??", ("",) * 8, ("end", "x")))), [""])
        self.assertEqual(free_names(("take", "y", [])), ["y"])
        self.assertEqual(kept_names(("call", "X", "No", ("a",) * 8, ("end", "Y"))), ["Y"])

    def test_many_steps(self):
        self.assertEqual(free_names(chain(400)), ["a"])
        self.assertEqual(frame_cost(("call", "x", "f", (), chain(399))), 1)
        self.refused(chain(401))
        self.refused(("call", "x", "f", (), chain(400)))
        self.refused(("test", "c", chain(200), chain(200)))
        self.assertEqual(free_names(("test", "c", chain(200), chain(199))), ["a", "c"])
        # A step that stands twice counts twice.
        step = END
        for _ in range(300):
            step = ("test", "c", step, step)
        self.refused(step)

    def test_lists_are_new(self):
        free_names(STEPS["call"]).clear()
        kept_names(STEPS["call"]).clear()
        self.assertEqual([free_names(STEPS["call"]), kept_names(STEPS["call"])], [["a", "b", "e"], ["e"]])


def scope_at(program, place):
    """Return what names_at should, by going down the way."""
    _, parameters, _, step = program[2][place[1]]
    scope = list(parameters)
    functions = {function[0]: function for function in program[2]}
    makers = {maker: (kind[1], parts) for kind in program[1] if kind[0] == "choice" for maker, parts in kind[2]}
    calls = {kind[1]: kind[3] for kind in program[1] if kind[0] == "calls"}
    for end in place[3:]:
        head, kinds = step[0], dict(scope)
        new = []
        if head in ("num", "flag"):
            new = [(step[1], head)]
        elif head == "deed":
            new = [(step[1], "flag" if step[2] in ("less", "same", "both", "any", "not") else "num")]
        elif head == "make":
            new = [(step[1], makers[step[2]][0])]
        elif head == "take":
            new = list(zip(step[2][end][1], makers[step[2][end][0]][1]))
        elif head == "call" or (head == "try" and end == 0):
            new = [(step[1], functions[step[2]][2])]
        elif head == "try":
            new = [(step[5], "num")]
        elif head == "keep":
            new = [(step[1], step[2])]
        elif head == "use":
            new = [(step[1], calls[kinds[step[2]]])]
        used = plain_reading.uses(step)
        scope = [pair for pair in scope if pair[0] not in used or pair[1] in ("num", "flag")] + new
        step = plain_reading.ends(step)[end]
    return scope


class NamesAtTest(unittest.TestCase):

    BODY = ("num", "k", 1, ("take", "l", [
        ("nil", (), ("drop", "s", ("raise", "k"))),
        ("cons", ("h", "t"), ("keep", "g", "step", "f", ("t",), ("try", "x", "f", ("s", "h"), (
            "use", "r", "g", ("x",), ("end", "r")), "e", ("drop", "g", ("end", "e")))))]))
    PROGRAM = ("program", LISTS + [("calls", "step", ["num"], "num")], [
        ("f", [("l", "list"), ("m", "num")], "num", ("drop", "l", ("end", "m"))),
        ("h", [("s", "list"), ("l", "list")], "num", BODY)])

    def check(self, place, **kinds):
        self.assertEqual(names_at(self.PROGRAM, (1, 1, 0) + place), list(kinds.items()))

    def test_on_each_way(self):
        self.check((), s="list", l="list")
        self.check((0,), s="list", l="list", k="num")
        self.check((0, 0), s="list", k="num")
        self.check((0, 0, 0), k="num")
        self.check((0, 1), s="list", k="num", h="num", t="list")
        self.check((0, 1, 0), s="list", k="num", h="num", g="step")
        self.check((0, 1, 0, 0), k="num", h="num", g="step", x="num")
        self.check((0, 1, 0, 0, 0), k="num", h="num", x="num", r="num")
        self.check((0, 1, 0, 1), k="num", h="num", g="step", e="num")
        self.check((0, 1, 0, 1, 0), k="num", h="num", e="num")

    def test_random_programs(self):
        for seed in range(12):
            program = random_program(seed)
            for function in program[2]:
                for place in places_of(program, function[0]):
                    self.assertEqual(names_at(program, place), scope_at(program, place))

    def test_errors(self):
        program = one_function(chain(3), [("a", "num")])
        for odd in ODD:
            if odd != ("program", [], []):
                with self.assertRaises(InvalidProgram) as caught:
                    names_at(odd, "nor a place")
                self.assertIs(caught.exception.value, odd)
            if odd != (1, 0, 0):
                with self.assertRaises(InvalidList) as caught:
                    names_at(program, odd)
                self.assertIs(caught.exception.value, odd)
        for place in ((), (0, 0), (1, 0), (1, 0, 0, 1), (1, 0, 0, 0, 0, 0), (1, 0, False), (1, 1, 0), [1, 0, 0]):
            self.assertRaises(InvalidList, names_at, program, place)


class ReachableTest(unittest.TestCase):

    def program(self):
        def plain(name, step):
            return (name, [("n", "num")], "num", step)
        return ("program", [("calls", "step", ["num"], "num")], [
            plain("kept", ("end", "n")),
            plain("keeps", ("keep", "k", "step", "kept", (), ("usego", "k", ("n",)))),
            plain("tried", ("go", "gone", ("n",))),
            plain("start", ("call", "x", "calls1", ("n",), ("end", "x"))),
            plain("gone", ("raise", "n")),
            plain("tries", ("try", "x", "tried", ("n",), ("end", "x"), "e", ("go", "keeps", ("e",)))),
            plain("calls1", ("call", "y", "tries", ("n",), ("end", "y"))),
            plain("alone", ("end", "n")),
            plain("round", ("go", "back", ("n",))),
            plain("back", ("call", "x", "round", ("n",), ("end", "x"))),
            plain("self", ("go", "self", ("n",))),
        ])

    def test_reachable(self):
        program = self.program()
        for name, wanted in (("kept", "kept"), ("keeps", "kept keeps"), ("tried", "tried gone"),
                             ("gone", "gone"), ("tries", "kept keeps tried gone tries"),
                             ("calls1", "kept keeps tried gone tries calls1"),
                             ("start", "kept keeps tried start gone tries calls1"), ("alone", "alone"),
                             ("round", "round back"), ("back", "round back"), ("self", "self")):
            self.assertEqual(reachable(program, name), wanted.split(), name)

    def test_on_ways_that_are_never_taken(self):
        body = ("flag", "c", True, ("test", "c", ("end", "n"), ("go", "g", ("n",))))
        functions = [("f", [("n", "num")], "num", body), ("g", [("n", "num")], "num", ("end", "n"))]
        self.assertEqual(reachable(("program", [], functions), "f"), ["f", "g"])

    def test_errors(self):
        program = self.program()
        for odd in ODD + ["step", "n", "Start"]:
            if odd != ("program", [], []):
                with self.assertRaises(InvalidProgram) as caught:
                    reachable(odd, "nor a name")
                self.assertIs(caught.exception.value, odd)
            with self.assertRaises(InvalidName) as caught:
                reachable(program, odd)
            self.assertIs(caught.exception.value, odd)


class StepsTest(unittest.TestCase):

    def test_names_of_steps_of_programs(self):
        program = random_program(3)
        for place in places_of(program, "fb"):
            step = step_at(program, place)
            bound = [name for name, _ in names_at(program, place)]
            self.assertTrue(set(free_names(step)) <= set(bound))


if __name__ == "__main__":
    unittest.main()
