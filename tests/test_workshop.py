"""[59] to [62]: the workshop, against a plain list of units."""

import copy
import random
import unittest

from cellbills.bills import bill_or_refusal
from cellbills.codegen import listing
from cellbills.errors import InvalidFlag, InvalidList, InvalidName, InvalidNumber, InvalidUnit
from cellbills.errors import NothingToRedo, NothingToUndo, TooMany, Unlike
from cellbills.judged import is_bill, is_refusal
from cellbills.machine import run
from cellbills.reader import read_text
from cellbills.units import linked, misfit, parted
from cellbills.workshop import Workshop
from tests.checks import Checks
from tests.samples import EMPTY, LISTS, NIL, ODD, lists_within, row, share_lists
from tests.test_units import NOT_UNITS, choice, function, go, unit

PROGRAM = read_text("""kind list = nil[] | cons[num, list]
fun turn(x: list, y: list): list = match x { nil[]: y cons[h, t]: go turn(t, cons[h, y]) }
fun twice(x: list): list = match x { nil[]: nil[] cons[h, t]: let r = twice(t); cons[h, cons[h, r]] }
fun both(x: list): list = let a = twice(x); go turn(a, nil[])
fun safe(x: list): num = try r = falls(x) then r catch e then e + 1
fun falls(x: list): num = drop x; raise 5""")
LOTS = [["turn"], ["both", "safe"], ["twice", "falls"]]
UA, UB, UC = parted(PROGRAM, LOTS)
SMALL = [unit(), unit("v"), unit("u", [], [], [function()]), unit("v", [], [], [go("g", "g")]), unit("w", LISTS),
         unit("w", [], [("f", [], "num")], [go("h", "f")]), unit("x", [choice("k", "a1")]), unit("x", [choice("k", "f")]),
         unit("y", [("choice", "list", [("nil", [])])]), unit("y", [], [("f", ["num"], "num")])]


class Plain:
    """A plain list of units, with all lists ahead of each call that stands."""

    def __init__(self):
        self.units, self.ahead, self.back, self.calls, self.seen = [], [], [], [], []

    def put(self, own):
        names = [other[1] for other in self.units]
        if own[1] in names:
            self.units = [own if other[1] == own[1] else other for other in self.units]
        elif len(names) == 12:
            raise TooMany(13)
        else:
            self.units = self.units + [own]

    def strike(self, name):
        if name not in [own[1] for own in self.units]:
            raise InvalidName(name)
        self.units = [own for own in self.units if own[1] != name]

    def do(self, deeds, call, keep=True):
        before = self.units
        try:
            for word, value in deeds:
                getattr(self, word)(value)
        except (TooMany, InvalidName):
            self.units = before
            raise
        names = [own[1] for own in self.units]
        if not keep:
            self.units = before
            return names
        self.ahead.append(before)
        self.calls.append(call)
        self.back = []
        self.note()
        return names

    def note(self):
        self.seen.extend(own for own in self.units if own not in self.seen)

    def undo(self):
        if not self.ahead:
            raise NothingToUndo()
        self.back.append((self.units, self.calls.pop()))
        self.units = self.ahead.pop()

    def redo(self):
        if not self.back:
            raise NothingToRedo()
        self.ahead.append(self.units)
        self.units, call = self.back.pop()
        self.calls.append(call)

    def copied(self):
        other = Plain()
        for part in ("units", "ahead", "back", "calls", "seen"):
            setattr(other, part, list(getattr(self, part)))
        return other


class Base(Checks, unittest.TestCase):

    def alike(self, workshop, plain):
        """Check all that a workshop tells against a plain list."""
        names = [own[1] for own in plain.units]
        self.assertEqual(workshop.units(), names)
        self.assertEqual(list(workshop), names)
        self.assertEqual(len(workshop), len(names))
        self.assertEqual([workshop.unit(name) for name in names], plain.units)
        self.assertEqual(list(workshop.each()), list(zip(names, plain.units)))
        self.assertEqual(workshop.log(), plain.calls)
        self.assertEqual(workshop.made(), len(plain.seen))
        for name in ("u", "v", "w", "x", "y", "z"):
            self.assertIs(name in workshop, name in names)

    def raised(self, kind, call, *arguments, **more):
        with self.assertRaises(kind) as caught:
            call(*arguments, **more)
        self.assertIs(type(caught.exception), kind)
        return caught.exception

    def holding(self, *units):
        workshop = Workshop()
        for own in units:
            workshop.put(own)
        return workshop


class WorkshopTest(Base):

    def test_a_new_one(self):
        workshop = Workshop()
        self.alike(workshop, Plain())
        self.assertIsNone(workshop.misfit())
        self.assertEqual((workshop.program(), workshop.code(), workshop.bill()), (EMPTY, [], ("bill", [])))
        self.assertEqual(list(workshop.each()), [])
        self.raised(NothingToUndo, workshop.undo)
        self.raised(NothingToRedo, workshop.redo)
        for odd in ODD:
            self.refused(workshop.strike, InvalidName, 0, odd)
            self.refused(workshop.unit, InvalidName, 0, odd)
            self.refused(workshop.run, InvalidName, 0, odd, None, None, None)
            self.assertIs(odd in workshop, False)
        self.alike(workshop, Plain())

    def test_put_and_strike(self):
        workshop = Workshop()
        self.assertIsNone(workshop.put(SMALL[0]))
        self.assertIsNone(workshop.put(SMALL[1]))
        workshop.put(SMALL[4])
        self.assertEqual(workshop.units(), ["u", "v", "w"])
        # In the place of the one that has its name.
        workshop.put(SMALL[2])
        self.assertEqual(workshop.units(), ["u", "v", "w"])
        self.assertEqual(workshop.unit("u"), SMALL[2])
        self.assertIsNone(workshop.strike("u"))
        workshop.put(SMALL[0])
        self.assertEqual(workshop.units(), ["v", "w", "u"])
        self.assertEqual(workshop.log(), [("put", SMALL[0]), ("put", SMALL[1]), ("put", SMALL[4]), ("put", SMALL[2]),
                                          ("strike", "u"), ("put", SMALL[0])])
        for odd in NOT_UNITS:
            self.refused(workshop.put, InvalidUnit, 0, odd)
        for odd in ODD:
            self.refused(workshop.strike, InvalidName, 0, odd)
            self.refused(workshop.unit, InvalidName, 0, odd)
            self.assertIs(odd in workshop, False)
        for odd in ([], {}, ["u"], ("u",), SMALL[0], 1, None, "U", "u "):
            self.assertIs(odd in workshop, False)
        self.assertTrue("u" in workshop)
        self.assertEqual(len(workshop.log()), 6)

    def test_a_thirteenth(self):
        workshop, plain = Workshop(), Plain()
        for number in range(12):
            workshop.put(unit(f"u{number}"))
            plain.do([("put", unit(f"u{number}"))], ("put", unit(f"u{number}")))
        self.assertEqual(self.raised(TooMany, workshop.put, unit("z")).value, 13)
        self.assertEqual(self.raised(TooMany, workshop.together, [("put", unit("z"))]).value, 13)
        # A value that is no unit is told first; one in the place of another one is none more.
        self.raised(InvalidUnit, workshop.put, None)
        self.alike(workshop, plain)
        workshop.put(unit("u3", LISTS))
        self.assertEqual(workshop.together([("strike", "u0"), ("put", unit("z"))])[-1], "z")
        self.raised(TooMany, workshop.together, [("put", unit("zz")), ("strike", "u1")])

    def test_together(self):
        workshop, plain = Workshop(), Plain()
        deeds = [("put", SMALL[0]), ("put", SMALL[1]), ("strike", "u"), ("put", SMALL[4])]
        self.assertEqual(workshop.together(deeds), ["v", "w"])
        plain.do(deeds, ("together", deeds))
        self.alike(workshop, plain)
        self.assertEqual(workshop.made(), 2)
        self.assertEqual(workshop.together([]), ["v", "w"])
        plain.do([], ("together", []))
        self.alike(workshop, plain)
        # With keep as False only the list is returned.
        for keep in (True, False):
            self.raised(InvalidName, workshop.together, [("strike", "z"), ("put", SMALL[0])], keep=keep)
            error = self.raised(InvalidName, workshop.together, [("put", SMALL[0]), ("strike", "z")], keep=keep)
            self.assertEqual(error.value, "z")
            self.raised(InvalidUnit, workshop.together, [("strike", "v"), ("put", None)], keep=keep)
            self.alike(workshop, plain)
        self.assertEqual(workshop.together([("put", SMALL[0]), ("strike", "v")], keep=False), ["w", "u"])
        self.alike(workshop, plain)
        self.assertIsNone(workshop.undo())
        plain.undo()
        self.alike(workshop, plain)
        # Nor does it bar what was taken back.
        workshop.together([("put", SMALL[2])], keep=False)
        self.raised(InvalidName, workshop.strike, "z")
        self.assertIsNone(workshop.redo())
        self.assertEqual(len(workshop.log()), 2)

    def test_deeds_that_are_none(self):
        workshop = self.holding(SMALL[0])
        for deeds in (None, (), {}, "put", [None], [("put",)], [("put", SMALL[0], 1)], [["put", SMALL[0]]], [("Put", SMALL[0])],
                      [("undo", None)], [(None, SMALL[0])], [("strike", "u"), None], [("together", [])], [("put", SMALL[0]), ()],
                      [(["put"], SMALL[0])], (("put", SMALL[0]),)):
            for keep in (True, 5):
                error = self.raised(InvalidList, workshop.together, deeds, keep=keep)
                self.assertIs(error.value, deeds)
        for odd in ODD:
            if odd != []:
                self.raised(InvalidList, workshop.together, odd)
            self.raised(InvalidList, workshop.together, [odd])
            if not isinstance(odd, bool):
                error = self.raised(InvalidFlag, workshop.together, [("strike", "none")], keep=odd)
                self.assertIs(error.value, odd)
            self.raised(InvalidName, workshop.together, [("strike", odd)])
            error = self.raised(InvalidUnit, workshop.together, [("put", odd), ("strike", "none")])
            self.assertIs(error.value, odd)
        for keep in (0, 1, None, "yes"):
            self.raised(InvalidFlag, workshop.together, [], keep=keep)
        with self.assertRaises(TypeError):
            workshop.together([], True)
        self.assertEqual(workshop.log(), [("put", SMALL[0])])

    def test_undo_and_redo(self):
        workshop, plain = Workshop(), Plain()
        calls = [("put", SMALL[0]), ("put", SMALL[1]), ("put", SMALL[2]), ("strike", "u"),
                 ("together", [("put", SMALL[4]), ("strike", "v")]), ("together", []), ("put", SMALL[6])]
        for word, value in calls:
            getattr(workshop, word)(value)
            plain.do(value if word == "together" else [(word, value)], (word, value))
            self.alike(workshop, plain)
        for _ in range(3):
            for _ in calls:
                workshop.undo()
                plain.undo()
                self.alike(workshop, plain)
            self.raised(NothingToUndo, workshop.undo)
            for _ in calls:
                workshop.redo()
                plain.redo()
                self.alike(workshop, plain)
            self.raised(NothingToRedo, workshop.redo)
        workshop.undo()
        workshop.undo()
        workshop.put(SMALL[8])
        self.raised(NothingToRedo, workshop.redo)
        self.assertEqual(workshop.log(), calls[:-2] + [("put", SMALL[8])])

    def test_walks_over_one_that_changes(self):
        workshop = self.holding(SMALL[0], SMALL[1], SMALL[4])
        walk = iter(workshop)
        self.assertEqual(next(walk), "u")
        workshop.strike("v")
        workshop.put(SMALL[6])
        self.assertEqual(list(walk), ["v", "w"])
        self.assertEqual(list(workshop), ["u", "w", "x"])
        for name in workshop:
            workshop.strike(name)
        self.assertEqual(len(workshop), 0)
        workshop.undo()
        # What is held when the first item is asked for, not when it was called.
        late, later = workshop.each(), workshop.each()
        workshop.put(SMALL[0])
        self.assertEqual(next(late), ("x", SMALL[6]))
        workshop.put(SMALL[7])
        workshop.strike("u")
        self.assertEqual(list(late), [("u", SMALL[0])])
        self.assertEqual(list(later), [("x", SMALL[7])])

    def test_what_is_changed_later(self):
        own = copy.deepcopy(UB)
        workshop = Workshop()
        workshop.put(own)
        deeds = [("put", copy.deepcopy(UA)), ("strike", "ua")]
        workshop.together(deeds)
        own[2].clear()
        own[3].append(None)
        own[4][0][1].clear()
        deeds[0][1][4].clear()
        deeds.clear()
        wanted = [("put", UB), ("together", [("put", UA), ("strike", "ua")])]
        for _ in range(2):
            self.assertEqual(workshop.unit("ub"), UB)
            self.assertEqual(workshop.log(), wanted)
            self.assertEqual(list(workshop.each()), [("ub", UB)])
            for told in (workshop.unit("ub"), workshop.log(), dict(workshop.each())["ub"], workshop.units()):
                for part in lists_within(told):
                    part.clear()
        full = self.holding(UA, UB, UC)
        for _ in range(2):
            for told in (full.program(), full.code(), full.bill()):
                self.assertFalse(share_lists([], told))
                for part in lists_within(told):
                    part.clear()
        self.assertEqual((full.program(), full.code()), (linked([UA, UB, UC]), listing(linked([UA, UB, UC]))))
        self.assertFalse(share_lists([full.log()], full.log()))

    def test_equality(self):
        one, other = self.holding(SMALL[0], SMALL[1]), self.holding(SMALL[1], SMALL[0])
        self.assertFalse(one == other)
        self.assertTrue(one != other)
        other.strike("v")
        other.put(SMALL[1])
        # Only what is held counts, in its order.
        self.assertTrue(one == other)
        self.assertFalse(one != other)
        self.assertEqual(Workshop(), Workshop())
        one.put(SMALL[2])
        self.assertFalse(one == other)
        one.undo()
        self.assertTrue(one == other)
        for odd in ODD + [one.units(), list(one.each())]:
            self.assertFalse(one == odd)
            self.assertFalse(odd == one)
        self.assertFalse(self.holding(unit("u")) == self.holding(unit("v")))
        self.assertEqual(self.holding(unit("u"), unit("v")).made(), 2)
        renamed = ("unit", "ua", UA[2], UA[3], [("turn", [("p", "list"), ("q", "list")]) + read_text(
            "fun turn(p: list, q: list): list = match p { nil[]: q cons[h, t]: go turn(t, cons[h, q]) }")[2][0][2:]])
        self.assertFalse(self.holding(UA) == self.holding(renamed))

    def test_copies(self):
        one = self.holding(SMALL[0], SMALL[1], SMALL[4])
        one.undo()
        other = one.copy()
        self.assertIsInstance(other, Workshop)
        self.assertTrue(one == other)
        self.assertEqual((other.log(), other.made()), (one.log(), 3))
        other.redo()
        self.assertEqual((one.units(), other.units()), (["u", "v"], ["u", "v", "w"]))
        one.put(SMALL[6])
        self.assertEqual((one.made(), other.made()), (4, 3))
        self.raised(NothingToRedo, one.redo)
        other.undo()
        other.undo()
        self.assertEqual((one.units(), other.units()), (["u", "v", "x"], ["u"]))
        other.redo()
        other.redo()
        self.assertEqual(other.units(), ["u", "v", "w"])

    def test_how_many_were_made(self):
        workshop = Workshop()
        seen = []
        for deed in (lambda: workshop.put(UA), lambda: workshop.put(copy.deepcopy(UA)), lambda: workshop.strike("ua"),
                     lambda: workshop.put(UA), lambda: workshop.undo(), lambda: workshop.redo(), lambda: workshop.put(UB),
                     lambda: workshop.together([("put", UC), ("strike", "uc")]),
                     lambda: workshop.together([("put", UC)], keep=False),
                     lambda: workshop.together([("put", SMALL[0]), ("put", SMALL[2]), ("put", SMALL[4])]),
                     lambda: workshop.together([("strike", "u"), ("put", SMALL[2])]), lambda: workshop.put(UC),
                     lambda: workshop.undo(), lambda: workshop.put(SMALL[0])):
            deed()
            seen.append(workshop.made())
        self.assertEqual(seen, [1, 1, 1, 1, 1, 1, 2, 2, 2, 4, 4, 5, 5, 6])
        other = workshop.copy()
        workshop.put(SMALL[6])
        other.put(SMALL[7])
        other.put(SMALL[1])
        self.assertEqual((workshop.made(), other.made()), (7, 8))
        # Another body makes another unit.
        changed = UC[:4] + (UC[4][::-1],)
        workshop.put(changed)
        self.assertEqual(workshop.made(), 8)

    def test_walks_of_many_calls(self):
        for seed in range(25):
            rng = random.Random(seed)
            pairs = [(Workshop(), Plain())]
            for _ in range(70):
                workshop, plain = rng.choice(pairs)
                word = rng.choice("put put put strike together together undo undo redo copy".split())
                if word == "copy":
                    if len(pairs) < 4:
                        pairs.append((workshop.copy(), plain.copied()))
                elif word in ("undo", "redo"):
                    self.both(lambda: getattr(workshop, word)(), lambda: getattr(plain, word)())
                else:
                    self.some_call(rng, word, workshop, plain)
                self.alike(workshop, plain)
            for one, own in pairs:
                for other, units in pairs:
                    self.assertIs(one == other, own.units == units.units)

    def some_deed(self, rng):
        if rng.random() < 0.6:
            return "put", rng.choice(SMALL + [unit(f"z{number}") for number in range(9)])
        return "strike", rng.choice(["u", "v", "w", "x", "y", "z1", "nobody"])

    def some_call(self, rng, word, workshop, plain):
        if word == "together":
            deeds, keep = [self.some_deed(rng) for _ in range(rng.randrange(4))], rng.random() < 0.7
            self.both(lambda: workshop.together(deeds, keep=keep), lambda: plain.do(deeds, ("together", deeds), keep))
            return
        deed = self.some_deed(rng)
        while deed[0] != word:
            deed = self.some_deed(rng)
        self.both(lambda: getattr(workshop, word)(deed[1]), lambda: (plain.do([deed], deed), None)[1])

    def both(self, one, other):
        """Check that two calls return the same, or raise the same."""
        try:
            wanted = other()
        except (TooMany, InvalidName, NothingToUndo, NothingToRedo) as error:
            told = self.raised(type(error), one)
            self.assertEqual(getattr(told, "value", None), getattr(error, "value", None))
        else:
            told = one()
            if isinstance(wanted, list):
                self.assertEqual(told, wanted)
            else:
                self.assertIsNone(told)


class ProgramTest(Base):

    def test_units_that_fit(self):
        for units in ([UA, UB, UC], [UC, UA, UB], [unit("none"), UB, UA, unit("kinds", LISTS), UC], [UA]):
            workshop = self.holding(*units)
            program = linked(units)
            self.assertIsNone(workshop.misfit())
            self.assertEqual(workshop.program(), program)
            self.assertEqual(workshop.code(), listing(program))
            word, told = workshop.bill()
            self.assertEqual(word, "bill")
            self.assertTrue(is_bill(program, told))

    def test_behind_each_call(self):
        rng = random.Random(5)
        workshop = Workshop()
        seen = {"fit": 0, "not": 0}
        units = [UA, UB, UC] + SMALL + [unit("ub", LISTS, [], [function("both")]), unit("uc", LISTS, [], UC[4] + [go("h", "h")])]
        for _ in range(120):
            if rng.random() < 0.7:
                workshop.put(rng.choice(units))
            elif len(workshop):
                workshop.strike(rng.choice(workshop.units()))
            held = [own for _, own in workshop.each()]
            why = misfit(held) if held else None
            self.assertEqual(workshop.misfit(), why)
            if why is not None:
                for call in (workshop.program, workshop.code, workshop.bill):
                    self.assertEqual(self.raised(Unlike, call).value, why)
                self.assertEqual(self.raised(Unlike, workshop.run, None, None, None, None).value, why)
                seen["not"] += 1
                continue
            program = linked(held) if held else EMPTY
            self.assertEqual((workshop.program(), workshop.code()), (program, listing(program)))
            word, told = workshop.bill()
            self.assertEqual(word, bill_or_refusal(program)[0])
            self.assertTrue((is_bill if word == "bill" else is_refusal)(program, told))
            seen["fit"] += 1
        self.assertGreater(min(seen.values()), 15)

    def test_too_many(self):
        many = [unit(f"u{at}", [], [], [function(f"f{at}x{number}") for number in range(14)]) for at in range(3)]
        kinds = [unit(f"v{at}", [choice(f"k{at}x{number}", f"m{at}x{number}") for number in range(7)]) for at in range(2)]
        for units, value in ((many, 42), (kinds, 14), (kinds + many, 42)):
            workshop = self.holding(*units)
            self.assertIsNone(workshop.misfit())
            for call in (workshop.program, workshop.code, workshop.bill):
                self.assertEqual(self.raised(TooMany, call).value, value)
            self.assertEqual(self.raised(TooMany, workshop.run, None, None, None, None).value, value)
            workshop.undo()
            self.assertEqual(self.holding(*units[:-1]), workshop)

    def test_runs(self):
        workshop = self.holding(UA, UB, UC)
        program = workshop.program()
        for name, arguments in (("both", [row([1, 2, 3])]), ("turn", [row([1]), row([2, 3])]), ("safe", [row([1])]),
                                ("falls", [NIL])):
            for cells in (3, 4, 5, 9, 40):
                for rows in (0, 3, 1000):
                    told = workshop.run(name, arguments, cells, rows)
                    self.assertEqual(told, run(program, listing(program), name, arguments, cells, rows))
        self.assertEqual(workshop.run("both", [row([1, 2])], 7, 1000)[0], ("value", row([2, 2, 1, 1])))
        # What is changed is run anew.
        workshop.put(("unit", "uc", UC[2], [], [UC[4][0], ("falls", [("x", "list")], "num", ("drop", "x", ("num", "n", 8, ("end", "n"))))]))
        self.assertEqual(workshop.run("safe", [NIL], 9, 100)[0], ("value", 8))
        workshop.undo()
        self.assertEqual(workshop.run(name="safe", arguments=[NIL], cells=9, rows=100)[0], ("value", 6))

    def test_errors_of_runs(self):
        workshop = self.holding(UA, UB, UC)
        for odd in ODD:
            self.refused(workshop.run, InvalidName, 0, odd, None, None, None)
            self.refused(workshop.run, InvalidList, 1, "falls", odd, None, None)
            if type(odd) is not int or odd < 0 or odd > 50000:
                self.refused(workshop.run, InvalidNumber, 2, "falls", [NIL], odd, None)
                self.refused(workshop.run, InvalidNumber, 3, "falls", [NIL], 5, odd)
        self.refused(workshop.run, InvalidNumber, 2, "falls", [row([1, 2])], 1, None)
        self.refused(workshop.run, InvalidNumber, 2, "falls", [NIL], 50001, None)
        self.refused(workshop.run, InvalidNumber, 3, "falls", [NIL], 5, 1000001)
        self.assertEqual(len(workshop.log()), 3)


if __name__ == "__main__":
    unittest.main()
