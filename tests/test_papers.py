"""[22], [23]: states, what follows on them, and traces."""

import random
import unittest

from cellbills.errors import InvalidList, InvalidName, InvalidNumber, InvalidPaper, InvalidProgram
from cellbills.papers import first_state, is_state, is_trace, next_state, trace
from cellbills.reader import read_text
from cellbills.reading import read
from tests.checks import Checks, spoilt
from tests.plain_papers import plain_first, plain_next, plain_trace
from tests.samples import KINDS, NIL, ODD, random_program, random_thing, row
from tests.test_reading import PROGRAM

ONE, TWO = row([1]), row([1, 2])
NAMES = [function[0] for function in PROGRAM[2]]


def at(name, *ends):
    """Return the place of a step of a function of the program."""
    return (1, NAMES.index(name), 0) + ends


CALL3 = (at("calls3"), [("a", 1), ("b", 2), ("c", 3)])
TRY = (at("tries"), [("l", TWO), ("n", 3)])
USE = (at("uses"), [("n", 4)])


class NextTest(Checks, unittest.TestCase):

    def goes(self, state, told, program=PROGRAM):
        """Check what follows on a state, which is one, as the other look at it tells, too."""
        self.is_told(True, is_state, program, state)
        self.assertEqual(self.told(next_state, program, state), told)
        self.assertEqual(repr(next_state(program, state)), repr(told))
        self.assertEqual(plain_next(program, state), told)
        self.is_told(True, is_trace, program, [state, told])
        if len(told) == 4:
            self.is_told(True, is_state, program, told)

    def test_first_states(self):
        self.assertEqual(self.told(first_state, PROGRAM, "turn", [TWO, NIL], 7),
                         (at("turn"), [("x", TWO), ("y", NIL)], [], 7))
        # What is not used is not told; the names stand in order.
        program = read_text("fun f(b: num, a: num, c: num): num = b + a")
        self.assertEqual(first_state(program, "f", [1, 2, 3], 0), ((1, 0, 0), [("a", 2), ("b", 1)], [], 0))
        self.assertEqual(first_state(PROGRAM, "seven", [], 10 ** 29), (at("seven"), [], [], 10 ** 29))

    def test_num_flag_deed(self):
        self.goes((at("seven"), [], [], 3), (at("seven", 0), [("a", 7)], [], 3))
        program = read_text("fun f(c: flag): flag = let d = yes; c & d")
        self.goes(((1, 0, 0), [("c", False)], [], 0), ((1, 0, 0, 0), [("c", False), ("d", True)], [], 0), program)
        self.goes(((1, 0, 0, 0), [("c", False), ("d", True)], [], 0), ((1, 0, 0, 0, 0), [("a", False)], [], 0), program)

    def test_make_and_keep(self):
        self.goes((at("make1"), [("n", 5)], [], 1), (at("make1", 0), [("a", NIL), ("n", 5)], [], 1))
        self.goes((at("make1", 0), [("a", NIL), ("n", 5)], [], 1), (at("make1", 0, 0), [("b", row([5]))], [], 0))
        self.goes((at("make1", 0), [("a", NIL), ("n", 5)], [], 0), ("want",))
        self.goes((at("keeps"), [("n", 5)], [], 1), (at("keeps", 0), [("a", ("kept", "add", (5,)))], [], 0))
        self.goes((at("keeps"), [("n", 5)], [], 0), ("want",))
        self.goes((at("bare"), [], [], 0), (at("bare", 0), [("a", ("kept", "seven", ()))], [], 0))

    def test_take_drop_test(self):
        self.goes((at("turn"), [("x", TWO), ("y", NIL)], [], 0),
                  (at("turn", 1), [("h", 1), ("t", row([2])), ("y", NIL)], [], 1))
        self.goes((at("turn"), [("x", NIL), ("y", ONE)], [], 0), (at("turn", 0), [("y", ONE)], [], 0))
        self.goes((at("first"), [("l", TWO), ("n", 9)], [], 0), (at("first", 0), [("n", 9)], [], 2))
        self.goes((at("test1"), [("c", True)], [], 0), (at("test1", 0), [], [], 0))
        self.goes((at("test1"), [("c", False)], [], 0), (at("test1", 1), [], [], 0))

    def test_call_and_try(self):
        names = [("a", 1), ("b", 2), ("c", 3), ("n", 4)]
        self.goes((at("calls3"), names, [], 1), (at("id1"), [("n", 4)], [CALL3], 0))
        self.goes((at("calls3"), names, [], 0), ("want",))
        self.goes((at("tries"), [("l", TWO), ("n", 3)], [CALL3], 2), (at("id1"), [("n", 3)], [CALL3, TRY], 0))
        self.goes((at("tries"), [("l", TWO), ("n", 3)], [CALL3], 1), ("want",))

    def test_go_use_usego(self):
        kept, bare = ("kept", "add", (3,)), ("kept", "id1", ())
        names = [("h", 1), ("t", ONE), ("y", NIL)]
        behind = (at("turn", 1, 0), [("a", ONE), ("t", ONE)], [], 4)
        self.goes((at("turn", 1), names, [], 5), behind)
        self.goes(behind, (at("turn"), [("x", ONE), ("y", ONE)], [], 4))
        self.goes((at("uses"), [("g", kept), ("n", 4)], [], 1), (at("add"), [("x", 3), ("y", 4)], [USE], 1))
        self.goes((at("uses"), [("g", bare), ("n", 4)], [], 1), (at("id1"), [("n", 4)], [USE], 0))
        self.goes((at("uses"), [("g", kept), ("n", 4)], [], 0), ("want",))
        self.goes((at("goes"), [("g", kept), ("n", 4)], [USE], 0), (at("add"), [("x", 3), ("y", 4)], [USE], 1))
        self.goes((at("goes"), [("g", bare), ("n", 4)], [], 0), (at("id1"), [("n", 4)], [], 0))

    def test_ends(self):
        self.goes((at("id1"), [("n", 9)], [], 5), ("value", 9))
        self.goes((at("same"), [("x", TWO)], [], 5), ("value", TWO))
        self.goes((at("id1"), [("n", 9)], [CALL3], 5),
                  (at("calls3", 0), [("a", 1), ("b", 2), ("c", 3), ("r", 9)], [], 6))
        self.goes((at("id1"), [("n", 9)], [CALL3, TRY], 5), (at("tries", 0), [("l", TWO), ("x", 9)], [CALL3], 7))
        self.goes((at("id1"), [("n", 9)], [CALL3, USE], 5), (at("uses", 0), [("n", 4), ("r", 9)], [CALL3], 6))

    def test_raises(self):
        deep = (at("deep"), [("l", TWO)])
        self.goes((at("fail1"), [("n", 9)], [], 5), ("fault", 9))
        # A frame's cost and what it keeps are given back, and all frames are gone.
        self.goes((at("fail1"), [("n", 9)], [deep, USE], 5), ("fault", 9))
        self.goes((at("fail1"), [("n", 9)], [TRY], 5), (at("tries", 1), [("e", 9), ("l", TWO), ("n", 3)], [], 7))
        self.goes((at("fail1"), [("n", 9)], [deep, TRY, deep, USE], 5),
                  (at("tries", 1), [("e", 9), ("l", TWO), ("n", 3)], [deep], 5 + 1 + 1 + 2 + 2))

    def test_states_to_which_no_reading_comes(self):
        # The function of the last place is not the one that the frame's step calls.
        self.goes((at("seven", 0), [("a", 5)], [CALL3, USE], 0), (at("uses", 0), [("n", 4), ("r", 5)], [CALL3], 1))
        self.goes((at("drops", 0), [], [TRY], 0), (at("drops", 0, 0), [("a", 0)], [TRY], 0))
        # Things that no reading of the program makes; the last step of all, with just its name.
        self.goes((at("same"), [("x", row([2 ** 63 - 1] * 199))], [], 10 ** 29), ("value", row([2 ** 63 - 1] * 199)))
        self.goes((at("turn", 1, 0), [("a", ONE), ("t", TWO)], [], 0), (at("turn"), [("x", TWO), ("y", ONE)], [], 0))


class StatesTest(Checks, unittest.TestCase):

    def test_values_that_are_no_states(self):
        place, names = at("turn", 1), [("h", 1), ("t", ONE), ("y", NIL)]
        good = (place, names, [], 3)
        self.is_told(True, is_state, PROGRAM, good)
        wrong = [list(good), good[:3], good + (0,), (list(place),) + good[1:], (at("turn", 2),) + good[1:],
                 (at("turn", 1, 0, 0),) + good[1:], ((),) + good[1:], ((0, 0),) + good[1:],
                 ((1, NAMES.index("turn")),) + good[1:], ((1, 99, 0),) + good[1:], ((True,) + place[1:],) + good[1:],
                 (place[:-1] + (True,),) + good[1:], (place[:-1] + (-1,),) + good[1:]]
        for other in ([names[1], names[0], names[2]], names[:2], names + [("x", NIL)], tuple(names), names + names[2:],
                      [("h", 1), ("t", ONE), ("z", NIL)], [["h", 1]] + names[1:], [("h", 1, 1)] + names[1:],
                      [("h", True)] + names[1:], [("h", 2 ** 63)] + names[1:], [("h", NIL)] + names[1:],
                      [("h", 1), ("t", ("node", "two", (NIL, NIL))), ("y", NIL)], [("h",)] + names[1:],
                      [("h", 1), ("t", row([1] * 200)), ("y", NIL)], None, {}, [], [None] * 3,
                      [("h", 1), ("t", list(ONE)), ("y", NIL)]):
            wrong.append((place, other, [], 3))
        for hand in (-1, True, None, "3", [3], (3,)):
            wrong.append((place, names, [], hand))
        for frames in ((), None, {}, [None], [()], [good], "", 0):
            wrong.append((place, names, frames, 3))
        for value in wrong + ODD:
            self.is_told(False, is_state, PROGRAM, value)
            self.refused(next_state, InvalidPaper, 1, PROGRAM, value)

    def test_wrong_frames(self):
        def state(*frames):
            return at("id1"), [("n", 5)], list(frames), 0
        for frames in ([CALL3], [TRY], [USE], [CALL3, TRY, USE, CALL3]):
            self.is_told(True, is_state, PROGRAM, state(*frames))
        for frame in (list(CALL3), CALL3 + (1,), (CALL3[0],), (list(CALL3[0]), CALL3[1]), (CALL3[0], tuple(CALL3[1])),
                      (CALL3[0], CALL3[1][:2]), (CALL3[0], CALL3[1][::-1]), (CALL3[0], CALL3[1] + [("n", 1)]),
                      (CALL3[0], [("a", 1), ("b", 2), ("c", NIL)]), (CALL3[0], [("a", 1), ("b", 2), ("d", 3)]),
                      (CALL3[0], [("a", True), ("b", 2), ("c", 3)]), (at("calls3", 0), CALL3[1]), (at("seven"), []),
                      (at("turn", 1), [("h", 1), ("t", ONE), ("y", NIL)]), (at("goes"), [("g", NIL), ("n", 1)]),
                      (at("goes"), []), (at("test1"), []), ((), []), (None, None)):
            for frames in ([frame], [CALL3, frame], [frame, CALL3]):
                self.is_told(False, is_state, PROGRAM, state(*frames))

    def test_the_kind_for_which_a_frame_waits(self):
        # In deep makes is called for a list, and fail1 for a number.
        list_frame, num_frame = (at("deeper"), [("n", 1)]), (at("deep"), [("l", TWO)])
        lists, nums = (at("turn", 0), [("y", NIL)]), (at("id1"), [("n", 5)])
        self.is_told(True, is_state, PROGRAM, lists + ([list_frame], 0))
        self.is_told(False, is_state, PROGRAM, nums + ([list_frame], 0))
        self.is_told(True, is_state, PROGRAM, nums + ([num_frame], 0))
        self.is_told(False, is_state, PROGRAM, lists + ([num_frame], 0))
        self.is_told(True, is_state, PROGRAM, lists + ([num_frame, list_frame], 0))
        # The function of deeper answers a number, for which a frame that waits for a list does not.
        self.is_told(False, is_state, PROGRAM, lists + ([list_frame, list_frame], 0))
        # That of a use waits for the answer of its kind.
        self.is_told(True, is_state, PROGRAM, nums + ([USE], 0))
        self.is_told(False, is_state, PROGRAM, lists + ([USE], 0))

    def test_any_value(self):
        state = (at("fail1"), [("n", 1)], [(at("deep"), [("l", TWO)]), TRY], 1)
        told, rng = set(), random.Random(5)
        for value in spoilt(state, rng):
            is_it = is_state(PROGRAM, value)
            self.assertIsInstance(is_it, bool)
            told.add(is_it)
            if is_it:
                self.assertEqual(next_state(PROGRAM, value), plain_next(PROGRAM, value))
        self.assertEqual(told, {True, False})

    def test_errors(self):
        for odd in ODD:
            if odd != ("program", [], []):
                self.refused(is_state, InvalidProgram, 0, odd, None)
                self.refused(next_state, InvalidProgram, 0, odd, None)
                self.refused(is_trace, InvalidProgram, 0, odd, None)
                self.refused(first_state, InvalidProgram, 0, odd, None, None, None)
                self.refused(trace, InvalidProgram, 0, odd, None, None, None, None)
            self.refused(first_state, InvalidName, 1, PROGRAM, odd, None, None)
            self.refused(trace, InvalidName, 1, PROGRAM, odd, None, None, None)
        for odd in ODD + [[1], [1, True], (1, 2), [NIL, 1]]:
            self.refused(first_state, InvalidList, 2, PROGRAM, "add", odd, None)
            self.refused(trace, InvalidList, 2, PROGRAM, "add", odd, None, None)
        for odd in ODD + [-1, "1"]:
            if odd not in (0, 5, 10 ** 29) or isinstance(odd, bool):
                self.refused(first_state, InvalidNumber, 3, PROGRAM, "add", [1, 2], odd)
                self.refused(trace, InvalidNumber, 3, PROGRAM, "add", [1, 2], odd, None)
        for odd in ODD + [-1, "1", 401, 100000]:
            if odd not in (0, 5) or isinstance(odd, bool):
                self.refused(trace, InvalidNumber, 4, PROGRAM, "add", [1, 2], 0, odd)


class TracesTest(Checks, unittest.TestCase):

    def check(self, name, arguments, hand, steps, last):
        told = self.told(trace, PROGRAM, name, arguments, hand, steps)
        self.assertEqual(told, plain_trace(PROGRAM, name, arguments, hand, steps))
        self.is_told(True, is_trace, PROGRAM, told)
        outcome, left, many = read(PROGRAM, name, arguments, hand, steps)
        if last is None:
            self.assertEqual(len(told), steps + 1)
            self.assertEqual((outcome, left, many), (("on",), told[-1][3], steps))
        else:
            self.assertEqual((told[-1], outcome), (last, last))
            self.assertEqual(many, len(told) - (2 if last == ("want",) else 1))
            # Nothing follows on an outcome.
            self.is_told(False, is_trace, PROGRAM, told + told[-1:])
            self.is_told(False, is_trace, PROGRAM, told + told[-2:])
        return told

    def test_each_outcome(self):
        told = self.check("saved", [TWO, 3], 7, 400, ("value", 3))
        self.check("saved", [TWO, 3], 7, len(told) - 1, ("value", 3))
        self.check("saved", [TWO, 3], 7, len(told) - 2, None)
        self.check("saved", [TWO, 3], 6, 400, ("want",))
        self.check("deeper", [3, 3], 5, 400, ("fault", 3))
        self.check("again", [3], 1000, 400, None)
        self.check("ever", [3], 0, 400, None)
        self.check("again", [3], 0, 400, ("want",))

    def test_few_steps(self):
        self.assertEqual(self.check("add", [1, 2], 0, 0, None), [(at("add"), [("x", 1), ("y", 2)], [], 0)])
        self.check("add", [1, 2], 0, 1, None)
        self.check("add", [1, 2], 0, 2, ("value", 3))
        self.check("id1", [1], 0, 1, ("value", 1))
        self.check("id1", [1], 0, 0, None)
        # The step that wants is not read, but its outcome is told.
        self.check("again", [1], 0, 1, ("want",))
        self.check("again", [1], 0, 0, None)

    def test_lists_that_begin_amid_a_reading(self):
        told = trace(PROGRAM, "saved", [TWO, 3], 7, 400)
        for first in range(len(told) - 1):
            self.is_told(True, is_trace, PROGRAM, told[first:])
            self.is_told(True, is_trace, PROGRAM, told[first:first + 1])
            self.is_told(True, is_trace, PROGRAM, told[first:first + 3])
        self.is_told(False, is_trace, PROGRAM, told[-1:])

    def test_lists_that_are_no_traces(self):
        told = trace(PROGRAM, "saved", [TWO, 3], 7, 400)
        self.is_told(False, is_trace, PROGRAM, [])
        self.is_told(False, is_trace, PROGRAM, tuple(told))
        self.is_told(False, is_trace, PROGRAM, [[state] for state in told])
        self.is_told(False, is_trace, PROGRAM, told[::-1])
        for number, state in enumerate(told):
            self.is_told(False, is_trace, PROGRAM, told[:number] + told[number:number + 1] + told[number:])
            if 0 < number < len(told) - 1:
                self.is_told(False, is_trace, PROGRAM, told[:number] + told[number + 1:])
            for odd in (None, (), list(state), state + (1,), ("want",), ("on",), ("value", 3), ("fault", 3)):
                if odd != state:
                    self.is_told(False, is_trace, PROGRAM, told[:number] + [odd] + told[number + 1:])
        self.is_told(False, is_trace, PROGRAM, told[:-1] + [("value", 4)])
        self.is_told(False, is_trace, PROGRAM, told[:-1] + [["value", 3]])
        for odd in ODD:
            self.is_told(False, is_trace, PROGRAM, odd)
            self.is_told(False, is_trace, PROGRAM, [odd])
            self.is_told(False, is_trace, PROGRAM, told[:3] + [odd])

    def test_one_item_spoilt(self):
        told, rng = trace(PROGRAM, "saved", [TWO, 1], 7, 400), random.Random(7)
        for number in range(1, len(told)):
            items = list(spoilt(told[number], rng))
            for item in rng.sample(items, min(len(items), 25)):
                if repr(item) != repr(told[number]):
                    self.is_told(False, is_trace, PROGRAM, told[:number] + [item] + told[number + 1:])

    def test_a_flag_is_no_number(self):
        # True is equal to 1, but it is another thing.
        told = trace(PROGRAM, "turn", [row([1, 0]), NIL], 0, 400)
        wrong = ("value", row([0, True]))
        self.assertEqual(told[-1], wrong)
        self.is_told(False, is_trace, PROGRAM, told[:-1] + [wrong])
        self.is_told(False, is_trace, PROGRAM, [(at("id1"), [("n", 1)], [], 0), ("value", True)])
        self.is_told(True, is_trace, PROGRAM, [(at("id1"), [("n", 1)], [], 0), ("value", 1)])
        second = told[1][:3] + (True,)
        self.assertEqual(second, told[1])
        self.is_told(False, is_trace, PROGRAM, [told[0], second])
        place = (True,) + told[1][0][1:]
        self.is_told(False, is_trace, PROGRAM, [told[0], (place,) + told[1][1:]])

    def test_flags_within_things(self):
        def swapped(value):
            """Yield equal values in which one number is a flag."""
            if value in (0, 1) and not isinstance(value, tuple):
                yield bool(value)
            for at, part in enumerate(value if isinstance(value, (list, tuple)) else ()):
                for other in swapped(part):
                    yield value[:at] + type(value)([other]) + value[at + 1:]
        program = read_text("""kind list = nil[] | cons[num, list] kind pair = two[list, list]
            calls step = (num) to num
            fun f(x: list, y: list): pair = let g = keep step add(one()); let a = g2(g, y); two[x, cons[a, nil[]]]
            fun one(): num = 1
            fun g2(g: step, y: list): num = match y { nil[]: use g(0) cons[h, t]: drop t; let c = h < h; use g(h) }
            fun add(a: num, b: num): num = a + b""")
        told = trace(program, "f", [row([1, 0, 2]), row([0, 1])], 9, 400)
        self.assertEqual(told[-1], ("value", ("node", "two", (row([1, 0, 2]), row([1])))))
        many = 0
        for number in range(1, len(told)):
            for item in swapped(told[number]):
                self.assertEqual(item, told[number])
                self.is_told(False, is_trace, program, told[:number] + [item] + told[number + 1:])
                many += 1
        self.assertGreater(many, 100)
        # The other way round: a flag for which a number is told.
        tree = ("node", "leaf", (False,))
        program = ("program", KINDS, [("f", [("t", "tree")], "tree", ("num", "n", 0, ("end", "t")))])
        told = trace(program, "f", [tree], 0, 400)
        self.is_told(True, is_trace, program, told)
        self.is_told(False, is_trace, program, told[:2] + [("value", ("node", "leaf", (0,)))])
        wrong = (told[1][0], [("n", 0), ("t", ("node", "leaf", (0,)))][1:], [], 0)
        self.assertEqual(wrong, told[1])
        self.is_told(False, is_trace, program, [told[0], wrong])

    def test_against_another_look(self):
        ended = set()
        for seed in range(60):
            program, rng = random_program(seed), random.Random(seed)
            for name, parameters, _, _ in program[2]:
                arguments = [random_thing(rng, program, kind) for _, kind in parameters]
                hand, steps = rng.choice([0, 1, 2, 3, 5, 100]), rng.choice([0, 1, 5, 20, 150])
                told = trace(program, name, arguments, hand, steps)
                wanted = plain_trace(program, name, arguments, hand, steps)
                self.assertEqual(repr(told), repr(wanted))
                self.assertEqual(first_state(program, name, arguments, hand),
                                 plain_first(program, name, arguments, hand))
                self.assertTrue(is_trace(program, wanted))
                ended.add(told[-1][0] if len(told[-1]) < 4 else "on")
                number = rng.randrange(len(told))
                if len(told[number]) == 4:
                    self.assertTrue(is_state(program, told[number]))
                    self.assertEqual(next_state(program, told[number]), plain_next(program, told[number]))
        self.assertEqual(ended, {"value", "fault", "want", "on"})

    def test_all_kinds_of_things(self):
        program = ("program", KINDS, [("f", [("t", "tree"), ("s", "step")], "step", ("drop", "t", ("end", "s")))])
        tree = ("node", "fork", (("node", "leaf", (True,)), TWO, ("node", "hold", (("kept", "g", ()),))))
        state = ((1, 0, 0), [("s", ("kept", "g", (3,))), ("t", tree)], [], 0)
        self.is_told(False, is_state, program, state)
        program[2].append(("g", [("x", "num"), ("y", "num")], "num", ("end", "x")))
        self.is_told(False, is_state, program, state)
        program[2].append(("h", [("x", "num")], "num", ("end", "x")))
        tree = tree[:2] + (tree[2][:2] + (("node", "hold", (("kept", "h", ()),)),),)
        self.is_told(True, is_state, program, (state[0], [state[1][0], ("t", tree)], [], 0))


if __name__ == "__main__":
    unittest.main()
