"""[7]: declarations of kinds."""

import copy
import unittest

from cellbills.errors import InvalidKind, InvalidList
from cellbills.kinds import constructors, is_kinds, reached
from tests.samples import KINDS, LISTS, ODD, share_lists


def choice(name, *makers):
    return ("choice", name, list(makers))


# Each kind's parts name other kinds; c and d come to one another round about.
ROUND = [
    choice("a", ("a1", ["b"]), ("a0", [])),
    choice("d", ("d1", ["c", "call"])),
    choice("b", ("b1", ["num", "flag"])),
    choice("c", ("c1", ["e"]), ("c2", ["d"])),
    choice("e", ("e1", ["d", "call"])),
    ("calls", "call", ["a"], "b"),
    choice("f", ("f1", ["call"])),
]


class IsKindsTest(unittest.TestCase):

    def check(self, wanted, *values):
        for value in values:
            with self.subTest(value=value):
                self.assertIs(is_kinds(value), wanted)

    def test_right_ones(self):
        self.check(True, [], LISTS, KINDS, ROUND, [("calls", "c", [], "num")],
                   [("calls", "c", ["c"], "c")], [choice("k", ("k", []))],
                   [choice("k", ("m", [])), choice("m", ("k", []))])

    def test_bounds(self):
        self.check(True, [choice(f"k{n}", (f"m{n}", [])) for n in range(12)])
        self.check(False, [choice(f"k{n}", (f"m{n}", [])) for n in range(13)])
        self.check(True, [choice("k", *[(f"m{n}", []) for n in range(8)])])
        self.check(False, [choice("k", *[(f"m{n}", []) for n in range(9)])])
        self.check(False, [choice("k")])
        self.check(True, [choice("k", ("m", ["num"] * 4))], [("calls", "k", ["num"] * 4, "num")])
        self.check(False, [choice("k", ("m", ["num"] * 5))], [("calls", "k", ["num"] * 5, "num")])

    def test_words(self):
        long = "a" * 30
        self.check(True, [choice(long, ("m", []))], [choice("k", (long, []))],
                   [choice("k", ("a1b2", []))], [choice("plus", ("minus", []))])
        for word in ("a" * 31, "", "A", "aB", "1a", "a_b", "a b", "num", "flag", "kind", "calls",
                     "yes", "no", "end", "fail", "in", "take", "a\n", "-"):
            self.check(False, [choice(word, ("m", []))], [choice("k", (word, []))],
                       [("calls", word, [], "num")])

    def test_names_twice(self):
        self.check(False, [choice("k", ("m", [])), choice("k", ("n", []))],
                   [choice("k", ("m", [])), ("calls", "k", [], "num")],
                   [choice("k", ("m", [])), choice("l", ("m", []))],
                   [choice("k", ("m", []), ("m", ["num"]))])

    def test_kinds_that_are_not_declared(self):
        self.check(False, [choice("k", ("m", ["l"]))], [("calls", "k", ["l"], "num")],
                   [("calls", "k", [], "l")], [choice("k", ("m", ["m"]))], KINDS[1:])

    def test_forms(self):
        self.check(False, *[value for value in ODD if value != []])
        self.check(False, *[[value] for value in ODD])
        self.check(False, tuple(LISTS), {"a": LISTS}, [list(LISTS[0])], [LISTS],
                   [("choice", "k", (("m", []),))], [("choice", "k", [["m", []]])],
                   [("choice", "k", [("m", ())])], [("choice", "k", [("m", [], [])])],
                   [("choice", "k", [("m",)])], [("choice", "k", [("m", [5])])],
                   [("choice", "k", [("m", [["num"]])])], [("choice", 5, [("m", [])])],
                   [("choice", "k", [(5, [])])], [("choice", "k", [("m", [])], "num")],
                   [("calls", "k", ("num",), "num")], [("calls", "k", [])], [("calls", "k", [], 5)],
                   [("calls", "k", [], "num", "num")], [("calls", ["k"], [], "num")],
                   [("calls", "k", [], ["num"])], [("call", "k", [], "num")], [("kind", "k", [("m", [])])])

    def test_odd_values_within(self):
        for odd in ODD:
            self.check(False, [(odd, "k", [("m", [])])], [("choice", "k", odd)])
            self.assertIn(is_kinds([("choice", odd, [("m", [])])]), (True, False))
            self.assertIn(is_kinds([("calls", "k", odd, "num")]), (True, False))


class ConstructorsTest(unittest.TestCase):

    def test_constructors(self):
        self.assertEqual(constructors(KINDS, "list"), [("nil", []), ("cons", ["num", "list"])])
        self.assertEqual(constructors(KINDS, "tree"),
                         [("leaf", ["flag"]), ("fork", ["tree", "list", "tree"]), ("hold", ["step"])])

    def test_lists_are_new(self):
        kinds = copy.deepcopy(KINDS)
        shared = ["num"]
        kinds.append(choice("z", ("z1", shared), ("z2", shared)))
        told = constructors(kinds, "z")
        self.assertFalse(share_lists(kinds[:-1] + [shared], told))
        told[0][1].append("flag")
        told.clear()
        self.assertEqual(constructors(kinds, "z"), [("z1", ["num"]), ("z2", ["num"])])

    def test_reached(self):
        self.assertEqual(reached(ROUND, "a"), ["a1", "a0", "b1"])
        self.assertEqual(reached(ROUND, "b"), ["b1"])
        for name in "dce":
            self.assertEqual(reached(ROUND, name), ["d1", "c1", "c2", "e1"])
        # What a calls kind wants and answers is not come to.
        self.assertEqual(reached(ROUND, "f"), ["f1"])
        self.assertEqual(reached(KINDS, "tree"), ["nil", "cons", "leaf", "fork", "hold"])
        self.assertEqual(reached(KINDS, "list"), ["nil", "cons"])

    def test_errors(self):
        for function in (constructors, reached):
            for kinds in [value for value in ODD if value != []] + [KINDS[1:], tuple(LISTS), LISTS * 2]:
                with self.assertRaises(InvalidList) as caught:
                    function(kinds, ["nor a name"])
                self.assertIs(caught.exception.value, kinds)
            for name in ODD + ["num", "flag", "step", "nil", "cons", "lists"]:
                with self.assertRaises(InvalidKind) as caught:
                    function(KINDS, name)
                self.assertIs(caught.exception.value, name)

    def test_arguments_stay(self):
        kinds = copy.deepcopy(ROUND)
        constructors(kinds, "a")
        reached(kinds, "a")
        is_kinds(kinds)
        self.assertEqual(kinds, ROUND)


if __name__ == "__main__":
    unittest.main()
