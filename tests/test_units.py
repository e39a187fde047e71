"""[47], [48], [49]: units, whether they fit, and programs parted into them."""

import random
import unittest

from cellbills.checker import is_program
from cellbills.errors import InvalidList, InvalidProgram, InvalidUnit, TooMany, Unlike
from cellbills.units import alone, is_unit, linked, misfit, parted
from tests.checks import Checks, spoilt
from tests.list_programs import list_program
from tests.samples import EMPTY, KINDS, LISTS, ODD, random_program, share_lists

NUM = ("num", "a", 1, ("end", "a"))


def unit(name="u", kinds=(), takes=(), functions=()):
    return ("unit", name, list(kinds), list(takes), list(functions))


def function(name="f", parameters=(), answer="num", body=NUM):
    return (name, list(parameters), answer, body)


def go(name, other):
    return function(name, body=("go", other, ()))


def choice(name, *makers):
    return ("choice", name, [(maker, []) for maker in makers])


NOT_UNITS = [odd for odd in ODD] + [unit()[:4], unit() + (0,), list(unit()), ("unit", "u", [], []), ("Unit",) + unit()[1:]]


class UnitTest(Checks, unittest.TestCase):

    def right(self, *units):
        for own in units:
            with self.subTest(unit=own):
                self.is_told(True, is_unit, own)
                told = self.told(alone, own)
                self.assertTrue(is_program(told))
                self.assertEqual(told[:2], ("program", own[2]))
                self.assertEqual(told[2][:len(own[4])], own[4])
                self.assertEqual([part[0] for part in told[2][len(own[4]):]], [taken[0] for taken in own[3]])

    def wrong(self, *units):
        for own in units:
            with self.subTest(unit=own):
                self.is_told(False, is_unit, own)
                self.refused(alone, InvalidUnit, 0, own)

    def test_units(self):
        self.right(unit(), unit("u" * 30), unit(kinds=KINDS), unit(functions=[function()]),
                   unit(takes=[("g", [], "num")]), unit(functions=[go("f", "g")], takes=[("g", [], "num")]),
                   unit(functions=[go("f", "f")]), unit(kinds=LISTS, takes=[("g", ["list"] * 8, "list")]))
        told = alone(unit(kinds=KINDS, functions=[function()], takes=[("g", ["list", "num", "step", "flag", "tree"], "list"),
                                                                      ("h", [], "flag")]))
        self.assertEqual(told[2][1:], [
            ("g", [("a", "list"), ("b", "num"), ("c", "step"), ("d", "flag"), ("e", "tree")], "list",
             ("drop", "a", ("drop", "c", ("drop", "e", ("num", "z", 0, ("raise", "z")))))),
            ("h", [], "flag", ("num", "z", 0, ("raise", "z")))])
        told = alone(unit(kinds=LISTS, takes=[("g", ["list"] * 8, "num")]))
        self.assertEqual([name for name, _ in told[2][0][1]], list("abcdefgh"))

    def test_bounds(self):
        self.right(unit(functions=[function(f"f{number}") for number in range(40)]),
                   unit(takes=[(f"f{number}", [], "num") for number in range(12)]),
                   unit(functions=[function(f"f{number}") for number in range(28)],
                        takes=[(f"t{number}", [], "num") for number in range(12)]),
                   unit(kinds=[choice(f"k{number}", f"m{number}") for number in range(12)]))
        self.wrong(unit(functions=[function(f"f{number}") for number in range(41)]),
                   unit(takes=[(f"f{number}", [], "num") for number in range(13)]),
                   unit(functions=[function(f"f{number}") for number in range(29)],
                        takes=[(f"t{number}", [], "num") for number in range(12)]),
                   unit(kinds=[choice(f"k{number}", f"m{number}") for number in range(13)]),
                   unit("u" * 31), unit(takes=[("g", ["num"] * 9, "num")]))

    def test_taken_functions(self):
        own = [function("f")]
        self.wrong(unit(functions=own, takes=[("f", [], "num")]), unit(takes=[("g", [], "num"), ("g", [], "num")]),
                   unit(takes=[("g", ["list"], "num")]), unit(takes=[("g", [], "list")]), unit(takes=[("num", [], "num")]),
                   unit(takes=[("G", [], "num")]), unit(kinds=LISTS, takes=[("nil", [], "num")]),
                   unit(functions=[go("f", "g")], takes=[("g", [], "flag")]), unit(functions=[go("f", "g")]),
                   unit(functions=[go("f", "g")], takes=[("g", ["num"], "num")]))
        for taken in (("g", (), "num"), ("g", [], "num", 0), ("g", []), ["g", [], "num"], ("g", [None], "num"),
                      ("g", [("a", "num")], "num"), (None, [], "num"), ("g", [], None), ("g", None, "num"), None, "g", ()):
            self.wrong(unit(takes=[taken]))

    def test_parts_of_other_kinds(self):
        for odd in ODD:
            self.wrong(("unit", odd if odd not in ("a",) else 5, [], [], []))
            if odd != []:
                self.wrong(("unit", "u", odd, [], []), ("unit", "u", [], odd, []), ("unit", "u", [], [], odd))
            self.wrong(("unit", "u", [odd], [], []), ("unit", "u", [], [odd], []), ("unit", "u", [], [], [odd]))
        self.wrong(*NOT_UNITS)
        self.wrong(unit(kinds=LISTS * 2), unit(functions=[function(answer="list")]),
                   unit(functions=[function(body=("end", "x"))]), unit(functions=[function(), function()]))
        whole = unit(kinds=LISTS, takes=[("g", ["list", "num"], "list")], functions=[function()])
        for value in spoilt(whole, random.Random(0)):
            self.assertIn(is_unit(value), (True, False))


class FitTest(Checks, unittest.TestCase):

    def told_misfit(self, units, wanted):
        self.assertEqual(self.told(misfit, units), wanted)
        if wanted is not None:
            with self.assertRaises(Unlike) as caught:
                linked(units)
            self.assertEqual(caught.exception.value, wanted)

    def test_units_that_fit(self):
        low = unit("low", LISTS, [], [function("f"), function("g", [("l", "list")], "num", ("drop", "l", NUM))])
        high = unit("high", [choice("cards", "ace")] + LISTS, [("f", [], "num"), ("g", ["list"], "num")],
                    [go("h", "f"), function("i")])
        self.told_misfit([low], None)
        self.told_misfit([low, high], None)
        self.told_misfit([high, low], None)
        self.told_misfit([unit()], None)
        told = self.told(linked, [high, low])
        self.assertEqual(told, ("program", [choice("cards", "ace")] + LISTS, high[4] + low[4]))
        self.assertEqual(linked([low, high]), ("program", LISTS + [choice("cards", "ace")], low[4] + high[4]))
        self.assertEqual(linked([unit()]), EMPTY)
        # Declarations in unlike orders; two units that take from one another, and the same function twice.
        one, other = choice("one", "a1"), choice("other", "b1")
        units = [unit("ua", [one, other], [("g", [], "num")], [go("f", "g")]),
                 unit("ub", [other, one], [("f", [], "num")], [go("g", "f")]), unit("uc", [], [("f", [], "num")], [go("h", "f")])]
        self.told_misfit(units, None)
        self.assertEqual(linked(units[::-1])[1:], ([other, one], [go("h", "f"), go("g", "f"), go("f", "g")]))
        # A kind may be called like a function, or like a constructor of another one.
        self.told_misfit([unit("ua", [choice("f", "a1")]), unit("ub", [choice("a1", "b1")], [], [function("f")])], None)
        # A taken function may be called like what stands nowhere else, and a name of a unit is only its own.
        self.told_misfit([unit("f", [], [], [function("f")]), unit("g", [], [("f", [], "num")], [])], None)

    def test_one_thing_alone(self):
        self.told_misfit([unit(), unit()], ("unit", "u", "u"))
        self.told_misfit([unit("ua", [], [], [function("f"), function("g")]), unit("ub", [], [], [function("h"), function("g")])],
                         ("function", "ub", "g"))
        self.told_misfit([unit("ua", [choice("k", "a1")]), unit("ub", [choice("l", "b1"), choice("k", "c1")])], ("kind", "ub", "k"))
        self.told_misfit([unit("ua", LISTS), unit("ub", [("calls", "list", [], "num")])], ("kind", "ub", "list"))
        self.told_misfit([unit("ua", [choice("k", "a1")]), unit("ub", [choice("l", "b1", "a1")])], ("constructor", "ub", "a1"))
        self.told_misfit([unit("ua", [choice("k", "a1")]), unit("ub", [], [], [function("f"), function("a1")])],
                         ("constructor", "ub", "a1"))
        self.told_misfit([unit("ua", [], [], [function("a1")]), unit("ub", [choice("k", "b1", "a1")])], ("constructor", "ub", "a1"))
        self.told_misfit([unit("ua", [], [("f", [], "num")])], ("missing", "ua", "f"))
        self.told_misfit([unit("ua", [], [("f", [], "num")]), unit("ub", [], [("f", [], "num")])], ("missing", "ua", "f"))
        for taken in (("f", ["num"], "num"), ("f", [], "flag")):
            self.told_misfit([unit("ua", [], [taken]), unit("ub", [], [], [function("f")])], ("unlike", "ua", "f"))

    def test_several_at_once(self):
        one, other = unit("ua", [choice("k", "a1")], [], [function("f")]), unit("ua", [choice("k", "b1")], [], [function("f")])
        self.told_misfit([one, other], ("unit", "ua", "ua"))
        other = unit("ub", [choice("k", "f")], [("g", [], "num")], [function("a2"), function("h")])
        self.told_misfit([one, other], ("kind", "ub", "k"))
        # All functions of all units are looked at ahead of the first kind.
        self.told_misfit([one, other, unit("uc", [], [], [function("h")])], ("function", "uc", "h"))
        self.told_misfit([one, other, unit("uc", [], [], [function("a2")]), unit("ua")], ("unit", "ua", "ua"))
        # Constructors of all declarations first, and then the functions.
        both = unit("ub", [choice("l", "b1"), choice("m", "f")], [], [function("a1")])
        self.told_misfit([one, both], ("constructor", "ub", "f"))
        self.told_misfit([unit("ua", [choice("k", "a1")]), both], ("constructor", "ub", "a1"))
        # What is missing anywhere stands ahead of what is unlike.
        units = [unit("ua", [], [("g", ["num"], "num")]), unit("ub", [], [("h", [], "num")]), unit("uc", [], [], [function("g")])]
        self.told_misfit(units, ("missing", "ub", "h"))
        self.told_misfit(units[:1] + units[2:], ("unlike", "ua", "g"))
        self.told_misfit([units[2], units[0]], ("unlike", "ua", "g"))
        # The first one of several, in order.
        units = [unit("ua", [], [], [function("f"), function("g")]), unit("ub", [], [], [function("g"), function("f")])]
        self.told_misfit(units, ("function", "ub", "g"))
        self.told_misfit(units[::-1], ("function", "ua", "f"))
        units = [unit("ua", [], [("x1", [], "num"), ("y1", [], "num")]), unit("ub", [], [("w1", [], "num")])]
        self.told_misfit(units, ("missing", "ua", "x1"))

    def test_too_many(self):
        many = [unit(f"u{at}", [], [], [function(f"f{at}x{number}") for number in range(10)]) for at in range(4)]
        self.assertEqual(len(linked(many)[2]), 40)
        kinds = [unit(f"v{at}", [choice(f"k{at}x{number}", f"m{at}x{number}") for number in range(4)]) for at in range(3)]
        self.assertEqual(len(linked(kinds)[1]), 12)
        # Declarations that are met again count once.
        self.assertEqual(len(linked(kinds + [unit("w", kinds[0][2] + kinds[2][2])])[1]), 12)
        more, another = unit("x", [], [], [function("more")]), unit("y", [choice("more", "more1"), choice("k", "l")])
        for units, value in ((many + [more], 41), (kinds + [another], 14), (kinds + [another] + many + [more], 41),
                             (many + kinds + [another], 14)):
            self.assertIsNone(misfit(units))
            with self.assertRaises(TooMany) as caught:
                linked(units)
            self.assertEqual(caught.exception.value, value)

    def test_lists_of_units(self):
        units = [unit(f"u{number}") for number in range(13)]
        self.assertIsNone(misfit(units[:12]))
        self.assertEqual(linked(units[:12]), EMPTY)
        for function_ in (misfit, linked):
            for value in (units, [], tuple(units[:2]), dict.fromkeys("ab"), units[:2] + [None]):
                self.refused(function_, InvalidList, 0, value)
            for odd in NOT_UNITS:
                self.refused(function_, InvalidList, 0, odd)
                self.refused(function_, InvalidList, 0, [unit(), odd])


class PartedTest(Checks, unittest.TestCase):

    def check(self, program, lots):
        units = self.told(parted, program, lots)
        self.assertEqual([own[1] for own in units], ["u" + letter for letter in "abcdefghijkl"][:len(lots)])
        table = {own[0]: own for own in program[2]}
        for own, lot in zip(units, lots):
            self.assertTrue(is_unit(own))
            self.assertEqual(own[2], program[1])
            self.assertEqual(own[4], [table[name] for name in lot])
        self.assertIsNone(misfit(units))
        self.assertEqual(linked(units), ("program", program[1], [table[name] for lot in lots for name in lot]))
        return units

    def test_lots(self):
        functions = [go("f", "g"), go("g", "h"), function("h"), function("i", body=("call", "x", "h", (), ("call", "y", "f", (), ("end", "y"))))]
        program = ("program", LISTS, functions)
        units = self.check(program, [["i", "f"], [], ["h", "g"]])
        self.assertEqual([own[3] for own in units], [[("g", [], "num"), ("h", [], "num")], [], []])
        units = self.check(program, [["g"], ["i"], ["f"], ["h"]])
        self.assertEqual([[taken[0] for taken in own[3]] for own in units], [["h"], ["f", "h"], ["g"], []])
        self.check(program, [["f", "g", "h", "i"]])
        self.check(EMPTY, [[]])
        self.check(EMPTY, [[]] * 12)
        keeps = ("program", KINDS, [
            function("f", [("n", "num")], "step", ("keep", "x", "step", "g", (), ("end", "x"))),
            function("g", [("n", "num")], "num", ("try", "x", "h", ("n",), ("end", "x"), "e", ("end", "e"))),
            function("h", [("n", "num")], "num", ("raise", "n"))])
        units = self.check(keeps, [["h"], ["g"], ["f"]])
        self.assertEqual([own[3] for own in units], [[], [("h", ["num"], "num")], [("g", ["num"], "num")]])

    def test_random_programs(self):
        for seed in range(30):
            rng = random.Random(seed)
            program = random_program(seed) if seed % 2 else list_program(seed, 9)
            lots = [[] for _ in range(rng.randrange(1, 13))]
            for name in rng.sample([own[0] for own in program[2]], len(program[2])):
                rng.choice(lots).append(name)
            units = self.check(program, lots)
            self.assertFalse(share_lists([program], units))

    def test_lists_that_are_no_lots(self):
        program = ("program", [], [function("f"), function("g")])
        for lots in ([], [["f"]], [["f", "g", "g"]], [["f"], ["g"], ["f"]], [["f", "h"]], [["f", "g", "h"]], (["f", "g"],),
                     [("f", "g")], ["f", "g"], ["fg"], [["f", None]], [["f", "g", 5]], [[], ["f", "g"]] * 2, None, {},
                     [["f", "g"]] + [[]] * 12):
            self.refused(parted, InvalidList, 1, program, lots)
        for odd in ODD:
            self.refused(parted, InvalidList, 1, program, odd)
            self.refused(parted, InvalidList, 1, program, [odd, ["f", "g"]] if odd not in ([], ["a"]) else [["f", "g"], odd, 5])
            if odd != EMPTY:
                self.refused(parted, InvalidProgram, 0, odd, None)

    def test_units_that_would_take_too_many(self):
        body = NUM
        for number in range(13):
            body = ("call", f"x{number}", f"f{number}", (), body)
        functions = [function(f"f{number}") for number in range(13)] + [function("all", body=body)]
        program = ("program", [], functions)
        names = [f"f{number}" for number in range(13)]
        self.check(program, [names[:1] + ["all"], names[1:]])
        # The first unit that would take too many is told.
        more = ("program", [], functions + [function("g"), function("every", body=("call", "y", "g", (), body))])
        for lots, many in (([["all"], ["every"], names + ["g"]], 13), ([["every"], ["all"], names + ["g"]], 14)):
            with self.assertRaises(TooMany) as caught:
                parted(more, lots)
            self.assertEqual(caught.exception.value, many)
        for lots in ([["all"], names], [names, ["all"]], [names[:5], ["all"], names[5:]]):
            with self.assertRaises(TooMany) as caught:
                parted(program, lots)
            self.assertEqual(caught.exception.value, 13)


if __name__ == "__main__":
    unittest.main()
