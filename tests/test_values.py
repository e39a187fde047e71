"""[8] and what [4] tells of things."""

import unittest

from cellbills.errors import InvalidKind, InvalidProgram, InvalidValue
from cellbills.values import depth, is_value, size
from tests.samples import KINDS, NIL, ODD, row

PROGRAM = ("program", KINDS, [
    ("add", [("x", "num"), ("y", "num")], "num", ("end", "x")),
    ("one", [("x", "num")], "num", ("end", "x")),
    ("turn", [("x", "list"), ("b", "flag"), ("y", "list")], "list", ("drop", "x", ("end", "y"))),
    ("bare", [], "tree", ("flag", "b", True, ("make", "t", "leaf", ("b",), ("end", "t")))),
    ("five", [(f"p{n}", "num") for n in range(5)], "num", ("end", "p0")),
    ("wide", [(f"p{n}", "num") for n in range(6)], "num", ("end", "p0")),
])
LEAF = ("node", "leaf", (True,))


def is_of(kind, *values):
    return [is_value(PROGRAM, kind, value) for value in values]


class IsValueTest(unittest.TestCase):

    def test_numbers_and_flags(self):
        self.assertEqual(is_of("num", 0, -2 ** 63, 2 ** 63 - 1), [True] * 3)
        self.assertEqual(is_of("num", 2 ** 63, -2 ** 63 - 1, True, False, None, "1", NIL), [False] * 7)
        self.assertEqual(is_of("flag", True, False), [True] * 2)
        self.assertEqual(is_of("flag", 0, 1, None, NIL), [False] * 4)

    def test_nodes(self):
        self.assertEqual(is_of("list", NIL, row([1]), row([1, 2, 3])), [True] * 3)
        self.assertEqual(is_of("tree", LEAF, ("node", "fork", (LEAF, row([5]), LEAF)),
                               ("node", "hold", (("kept", "one", ()),))), [True] * 3)
        self.assertEqual(is_of("list", LEAF, ("node", "cons", (1,)), ("node", "cons", (1, NIL, NIL)),
                               ("node", "cons", (True, NIL)), ("node", "cons", (1, LEAF)),
                               ("node", "cons", [1, NIL]), ["node", "nil", ()], ("node", "nil"),
                               ("node", "nil", (), ()), ("node", "null", ()), ("nil", ()),
                               ("kept", "nil", ()), ("cons", "cons", (1, NIL)), 5, True, None),
                         [False] * 16)
        self.assertEqual(is_of("tree", ("node", "leaf", (1,)), ("node", "hold", (NIL,)),
                               ("node", "fork", (LEAF, row([True]), LEAF))), [False] * 3)

    def test_kept_functions(self):
        self.assertEqual(is_of("step", ("kept", "add", (3,)), ("kept", "one", ())), [True] * 2)
        self.assertEqual(is_of("step", ("kept", "add", ()), ("kept", "add", (1, 2)), ("kept", "one", (1,)),
                               ("kept", "add", (True,)), ("kept", "turn", ()), ("kept", "none", ()),
                               ("node", "add", (3,)), ("kept", "add", [3]), ("kept", "nil", ()), NIL, 3),
                         [False] * 11)
        self.assertEqual(is_of("join", ("kept", "turn", (row([1]), False))), [True])
        self.assertEqual(is_of("join", ("kept", "turn", (row([1]),)), ("kept", "turn", (row([1]), 0)),
                               ("kept", "turn", (NIL, True, NIL))), [False] * 3)
        self.assertEqual(is_of("plant", ("kept", "bare", ()), ("kept", "one", ()), ("kept", "bare", (1,))),
                         [True, False, False])

    def test_at_most_four_parts(self):
        self.assertEqual(is_of("step", ("kept", "five", (1,) * 4), ("kept", "five", (1,) * 3)), [True, False])
        # It takes five numbers to make the function with six parameters one that wants one.
        self.assertEqual(is_of("step", ("kept", "wide", (1,) * 5), ("kept", "wide", (1,) * 4)), [False] * 2)

    def test_any_depth(self):
        thing = ("node", "hold", (("kept", "add", (3,)),))
        for number in range(50):
            thing = ("node", "fork", (thing, row([number]), LEAF))
        self.assertIs(is_value(PROGRAM, "tree", thing), True)
        wrong = ("node", "hold", (("kept", "add", (False,)),))
        for number in range(50):
            wrong = ("node", "fork", (LEAF, row([number]), wrong))
        self.assertIs(is_value(PROGRAM, "tree", wrong), False)

    def test_depth_bound(self):
        self.assertIs(is_value(PROGRAM, "list", row([1] * 199)), True)
        self.assertIs(is_value(PROGRAM, "list", row([1] * 200)), False)
        self.assertIs(is_value(PROGRAM, "list", row([1] * 5000)), False)

    def test_bound_of_things(self):
        def full(many):
            """Return a tree of so many leaves side by side, two things each, and empty lists."""
            if many == 1:
                return LEAF
            return ("node", "fork", (full(many // 2), NIL, full(many - many // 2)))
        # A fork with its empty list is two things more: 4 * many - 2 in all.
        self.assertIs(is_value(PROGRAM, "tree", full(5000)), True)
        self.assertIs(is_value(PROGRAM, "tree", full(5001)), False)
        # 1 and 19990 and 7, with a leaf of 2 things or with 3 things.
        self.assertIs(is_value(PROGRAM, "tree", ("node", "fork", (full(4998), row([1] * 3), LEAF))), True)
        last = ("node", "hold", (("kept", "add", (1,)),))
        whole = ("node", "fork", (full(4998), row([1] * 3), last))
        self.assertIs(is_value(PROGRAM, "tree", whole), False)
        self.assertRaises(InvalidValue, size, whole)

    def test_what_stands_twice_counts_twice(self):
        thing = LEAF
        for _ in range(150):
            thing = ("node", "fork", (thing, NIL, thing))
        self.assertIs(is_value(PROGRAM, "tree", thing), False)
        self.assertRaises(InvalidValue, size, thing)
        self.assertRaises(InvalidValue, depth, thing)

    def test_any_value(self):
        for kind in ("num", "flag", "list", "tree", "step", "join", "plant"):
            for value in ODD:
                self.assertIn(is_value(PROGRAM, kind, value), (True, False))
                for inner in (("node", "cons", (1, value)), ("node", value, ()), (value, "nil", ()),
                              ("kept", "add", (value,)), ("node", "cons", value)):
                    self.assertIn(is_value(PROGRAM, kind, inner), (True, False))

    def test_errors(self):
        for program in ODD + [PROGRAM[:2], PROGRAM + (1,), list(PROGRAM)]:
            if program != ("program", [], []):
                with self.assertRaises(InvalidProgram) as caught:
                    is_value(program, "nor a kind", 5)
                self.assertIs(caught.exception.value, program)
        for kind in [odd for odd in ODD if odd != "num"] + ["lists", "nil", "add", "kind"]:
            with self.assertRaises(InvalidKind) as caught:
                is_value(PROGRAM, kind, 5)
            self.assertIs(caught.exception.value, kind)


class SizeTest(unittest.TestCase):

    def test_size(self):
        self.assertEqual([size(thing) for thing in (0, True, NIL, ("kept", "f", ()))], [0] * 4)
        self.assertEqual(size(row([1, 2, 3])), 3)
        self.assertEqual(size(("kept", "f", (row([1]), ("kept", "g", (1,)), 5, ("kept", "g", ())))), 3)
        self.assertEqual(size(row([1] * 199)), 199)

    def test_depth(self):
        self.assertEqual([depth(thing) for thing in (0, False, NIL, ("kept", "f", ()))], [1] * 4)
        self.assertEqual([depth(row([1])), depth(row([1, 2, 3]))], [2, 4])
        self.assertEqual(depth(("kept", "f", (row([1]), 5, row([1, 2]), 5))), 4)
        self.assertEqual(depth(row([1] * 199)), 200)

    def test_of_whatever_program(self):
        thing = ("node", "some" + "x" * 26, (1, ("kept", "other", (True, False, 5, 6))))
        self.assertEqual([size(thing), depth(thing)], [2, 3])

    def test_errors(self):
        wrong = [odd for odd in ODD if odd not in (True, False, -1, 5, NIL)]
        wrong += [("node", "Nil", ()), ("node", "x" * 31, ()), ("node", "end", ()), ("kept", "", ()),
                  ("node", "cons", (1,) * 5), ("node", "cons", [1]), ("node", "cons", (1, 2 ** 63)),
                  ("node", "cons"), ["node", "cons", ()], ("node", 5, ()), ("made", "cons", ()),
                  ("node", "cons", (1, ("node", "cons", (1, None)))), row([1] * 200), 2 ** 63]
        for value in wrong:
            for function in (size, depth):
                with self.assertRaises(InvalidValue) as caught:
                    function(value)
                self.assertIs(caught.exception.value, value)


if __name__ == "__main__":
    unittest.main()
