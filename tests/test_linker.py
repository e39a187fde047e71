"""[54], [55]: files, and what is linked of them."""

import random
import unittest

from cellbills.codegen import code_of, listing
from cellbills.errors import InvalidList, InvalidUnit, TooMany, Unlike
from cellbills.linker import file_of, files_linked, is_file, unit_file
from cellbills.machine import run
from cellbills.rows import is_listing
from cellbills.units import alone, linked, misfit, parted
from tests.checks import Checks, spoilt
from tests.list_programs import list_program
from tests.samples import KINDS, LISTS, NIL, ODD, random_program, share_lists
from tests.some_units import some_units
from tests.test_units import NOT_UNITS, choice, function, go, unit

RETURN = [("return", 0)]


def file(name="u", kinds=(), takes=(), parts=()):
    return ("file", name, list(kinds), list(takes), list(parts))


def part(name="f", kinds=(), answer="num", rows=RETURN):
    return (name, list(kinds), answer, list(rows))


class FileTest(Checks, unittest.TestCase):

    def right(self, *files):
        for own in files:
            with self.subTest(file=own):
                self.is_told(True, is_file, own)
                if not own[3]:
                    wanted = [(name, rows) for name, _, _, rows in own[4]]
                    self.assertEqual(self.told(files_linked, [own]), wanted)

    def wrong(self, *files):
        for own in files:
            with self.subTest(file=own):
                self.is_told(False, is_file, own)
                self.refused(files_linked, InvalidList, 0, [own])

    def test_files_of_units(self):
        units = [unit(), unit(functions=[function()]), unit(kinds=KINDS, takes=[("g", ["list"], "tree")], functions=[function()])]
        for seed in range(40):
            units.extend(some_units(seed))
        for own in units:
            told = self.told(unit_file, own)
            self.assertEqual(told[:4], ("file",) + own[1:4])
            self.assertEqual([(name, kinds, answer) for name, kinds, answer, _ in told[4]],
                             [(name, [kind for _, kind in parameters], answer) for name, parameters, answer, _ in own[4]])
            self.assertEqual([rows for _, _, _, rows in told[4]], [code_of(alone(own), name) for name, _, _, _ in own[4]])
            self.is_told(True, is_file, told)
            self.assertFalse(share_lists([own], [told]))
            self.assertEqual(file_of(own), told)

    def test_right_files(self):
        self.right(file(), file(kinds=KINDS), file(takes=[("g", [], "num")]), file(parts=[part()]),
                   file(parts=[part("f", ["num"] * 8), part("g")]), file(kinds=LISTS, parts=[part("f", ["list"], "list", [
                       ("take", 0, (("nil", (), 1), ("cons", (1, 2), 1))), ("build", 0, "g", ()), ("jump", "g")]), part("g")]),
                   file(takes=[("g", ["num"], "num")], parts=[part(rows=[("jump", "g")]), part("h", rows=[
                       ("build", 1, "g", (0,)), ("return", 1)])]),
                   file(parts=[part(f"f{number}") for number in range(40)]),
                   file(parts=[part(f"f{number}") for number in range(28)], takes=[(f"t{number}", [], "num") for number in range(12)]),
                   file(parts=[part(rows=RETURN * 30000)]))

    def test_one_thing_changed(self):
        self.wrong(file(parts=[part(rows=[])]), file(parts=[part(rows=[("return", 64)])]), file(parts=[part(rows=RETURN * 30001)]),
                   file(parts=[part(rows=[("jump", "g")])]), file(parts=[part(rows=[("test", 0, 1)])]),
                   file(parts=[part(rows=[("build", 0, "nil", ())])]), file(parts=[part(), part()]),
                   file(parts=[part("num")]), file(parts=[part("F")]), file(parts=[part("f", ["list"])]),
                   file(parts=[part("f", [], "list")]), file(parts=[part("f", ["num"] * 9)]),
                   file(kinds=LISTS, parts=[part("nil")]), file(kinds=LISTS * 2),
                   file(takes=[("f", [], "num")], parts=[part()]), file(takes=[("g", [], "list")]),
                   file(takes=[("g", [], "num")] * 2), file(takes=[(f"t{number}", [], "num") for number in range(13)]),
                   file(takes=[("g", [], "num")], parts=[part(rows=[("build", 0, "g", (1,)), ("return", 0)])]),
                   file(parts=[part(f"f{number}") for number in range(41)]), file("U"), file("num"), file(""),
                   file(parts=[part(f"f{number}") for number in range(29)], takes=[(f"t{number}", [], "num") for number in range(12)]),
                   ("unit",) + file()[1:], file()[:4], file() + (0,), list(file()))
        for bad in (part() + (0,), part()[:3], list(part()), ("f", (), "num", RETURN), ("f", [], "num", tuple(RETURN)),
                    ("f", [None], "num", RETURN), (None, [], "num", RETURN), ("f", [], None, RETURN), ("f", [], "num", None),
                    ("f", [("a", "num")], "num", RETURN), None, (), "f"):
            self.wrong(file(parts=[bad]))
        for odd in ODD:
            self.wrong(odd, file(parts=[odd]), file(takes=[odd]), file(kinds=[odd]))
            if odd != []:
                self.wrong(("file", "u", odd, [], []), ("file", "u", [], odd, []), ("file", "u", [], [], odd))
            if odd != "a":
                self.wrong(("file", odd, [], [], []))
        whole = file(kinds=LISTS, takes=[("g", ["num"], "num")], parts=[part(rows=[("num", 0, 5), ("jump", "g")])])
        self.is_told(True, is_file, whole)
        for value in spoilt(whole, random.Random(0)):
            self.assertIn(is_file(value), (True, False))

    def test_errors(self):
        for odd in NOT_UNITS:
            self.refused(unit_file, InvalidUnit, 0, odd)


class LinkedTest(Checks, unittest.TestCase):

    def test_files_of_parted_programs(self):
        for seed in range(40):
            rng = random.Random(seed)
            program = random_program(seed) if seed % 2 else list_program(seed, 8)
            lots = [[] for _ in range(rng.randrange(1, 6))]
            for name in rng.sample([own[0] for own in program[2]], len(program[2])):
                rng.choice(lots).append(name)
            units = parted(program, lots)
            told = self.told(files_linked, [unit_file(own) for own in units])
            self.assertEqual(told, listing(linked(units)))
            self.assertEqual(sorted(told), sorted(listing(program)))

    def test_files_that_no_unit_of_the_same_rows_has(self):
        low = file("low", [], [], [part("f", ["num"], "num", [("num", 1, 1), ("deed", 0, "plus", (0, 1)), ("return", 0)])])
        high = file("high", LISTS, [("f", ["num"], "num")], [part("g", ["list", "num"], "num", [
            ("drop", 0), ("move", 0, 1), ("jump", "f")])])
        told = self.told(files_linked, [high, low])
        self.assertEqual(told, [("g", high[4][0][3]), ("f", low[4][0][3])])
        # It is a listing of the linked program of units that have such files.
        units = [unit("high", LISTS, [("f", ["num"], "num")], [function("g", [("l", "list"), ("n", "num")], "num", (
            "drop", "l", ("end", "n")))]), unit("low", [], [], [function("f", [("n", "num")], "num", ("end", "n"))])]
        self.assertTrue(is_listing(linked(units), told))
        self.assertEqual(run(linked(units), told, "g", [NIL, 5], 0, 100)[0], ("value", 6))

    def test_misfits(self):
        for units in ([unit(), unit()], [unit("ua", [], [], [function()]), unit("ub", [], [], [function()])],
                      [unit("ua", [choice("k", "a1")]), unit("ub", [choice("k", "b1")])],
                      [unit("ua", [choice("k", "f")]), unit("ub", [], [], [function()])],
                      [unit("ua", [], [("g", [], "num")], [go("f", "g")])],
                      [unit("ua", [], [("g", ["num"], "num")]), unit("ub", [], [], [function("g")])]):
            with self.assertRaises(Unlike) as caught:
                files_linked([unit_file(own) for own in units])
            self.assertEqual(caught.exception.value, misfit(units))
            self.assertIsNotNone(misfit(units))

    def test_too_many(self):
        many = [file(f"u{at}", parts=[part(f"f{at}x{number}") for number in range(14)]) for at in range(3)]
        kinds = [file(f"v{at}", [choice(f"k{at}x{number}", f"m{at}x{number}") for number in range(7)]) for at in range(2)]
        self.assertEqual(len(files_linked(many[:2])), 28)
        for files, value in ((many, 42), (kinds, 14), (kinds + many, 42)):
            with self.assertRaises(TooMany) as caught:
                files_linked(files)
            self.assertEqual(caught.exception.value, value)

    def test_lists_of_files(self):
        files = [file(f"u{number}") for number in range(13)]
        self.assertEqual(files_linked(files[:12]), [])
        for value in (files, [], tuple(files[:2]), files[:2] + [None], files[:2] + [unit("w")], None, dict.fromkeys("a")):
            self.refused(files_linked, InvalidList, 0, value)
        for odd in ODD:
            self.refused(files_linked, InvalidList, 0, odd)
            self.refused(files_linked, InvalidList, 0, [file(), odd])

    def test_files_that_are_changed_later(self):
        one = file(parts=[part()])
        told = files_linked([one])
        one[4][0][3].append(("raise", 0))
        self.assertEqual(told, [("f", RETURN)])


if __name__ == "__main__":
    unittest.main()
