"""[21]: peaks, needs, and where a reading is narrowest."""

import random
import unittest

from cellbills.errors import InvalidList, InvalidName, InvalidNumber, InvalidProgram
from cellbills.peaks import narrowest, need, peak
from cellbills.reader import read_text
from cellbills.reading import read
from cellbills.values import size
from tests.checks import Checks
from tests.plain_papers import plain_trace
from tests.plain_reading import plain_read
from tests.samples import NIL, ODD, random_program, random_thing, row
from tests.test_reading import PROGRAM

ALL = (peak, need, narrowest)
TWO = row([1, 2])


class PeaksTest(Checks, unittest.TestCase):

    def check(self, name, arguments, least, number=None, place=None, steps=1000, program=PROGRAM):
        """Check the peak, the need and the narrowest step, and readings at and about the peak."""
        self.assertEqual(self.told(peak, program, name, arguments, steps), least)
        inside = sum(size(thing) for thing in arguments)
        self.assertEqual(self.told(need, program, name, arguments, steps), least + inside)
        wanted = None if least == 0 else (number, place)
        self.assertEqual(self.told(narrowest, program, name, arguments, steps), wanted)
        outcome, hand, many = read(program, name, arguments, least, steps)
        self.assertNotEqual(outcome, ("want",))
        for more in (1, 10 ** 6, 10 ** 29):
            told = read(program, name, arguments, least + more, steps)
            self.assertEqual(told, (outcome, hand + more, many))
        if least:
            told = read(program, name, arguments, least - 1, steps)
            self.assertEqual((told[0], told[2]), (("want",), number))

    def test_nothing_is_taken(self):
        self.check("seven", [], 0)
        self.check("same", [TWO], 0)
        self.check("first", [TWO, 9], 0)
        self.check("opens", [TWO], 0)
        self.check("turn", [row(range(9)), NIL], 0)
        self.check("goes", [("kept", "add", (3,)), 4], 0)
        self.check("bare", [], 0)
        self.check("fail1", [3], 0)

    def test_make_and_keep(self):
        self.check("make1", [5], 1, 1, (1, self.number("make1"), 0, 0))
        self.check("makes", [5], 2, 2, (1, self.number("makes"), 0, 0, 0))
        self.check("keeps", [5], 1, 0, (1, self.number("keeps"), 0))
        self.check("takes", [TWO], 1, 0, (1, self.number("takes"), 0))

    def number(self, name):
        return [function[0] for function in PROGRAM[2]].index(name)

    def test_calls_uses_and_tries(self):
        self.check("calls4", [3, 1, 1, 1, 1], 2, 0, (1, self.number("calls4"), 0))
        self.check("catches", [TWO, 3], 2, 0, (1, self.number("catches"), 0))
        # A use takes its cost first: what the kept function gives back comes behind.
        self.check("uses", [("kept", "add", (3,)), 4], 1, 0, (1, self.number("uses"), 0))
        self.check("uses", [("kept", "first", (TWO,)), 4], 1, 0, (1, self.number("uses"), 0))

    def test_faults_that_leave_frames(self):
        # Of deep: a frame of 1; of deeper: makes takes 1 for its frame and 2 cells, and so on.
        self.check("deep", [TWO, 3], 4, 4, (1, self.number("makes"), 0, 0, 0))
        self.check("saved", [TWO, 3], 7, 10, (1, self.number("makes"), 0, 0, 0))

    def test_readings_cut_off(self):
        self.check("makes", [5], 0, steps=0)
        self.check("makes", [5], 0, steps=1)
        self.check("makes", [5], 1, 1, (1, self.number("makes"), 0, 0), steps=2)
        self.check("makes", [5], 2, 2, (1, self.number("makes"), 0, 0, 0), steps=3)
        for steps in (0, 1, 17, 1000):
            place = (1, self.number("again"), 0)
            self.check("again", [1], steps, steps - 1, place, steps=steps)
            self.check("ever", [1], 0, steps=steps)

    def test_the_first_of_several_steps(self):
        # Both makes stand at the peak: the first one wants.
        program = read_text("""kind list = nil[] | cons[num, list]
            fun f(n: num): num = let a = cons[n, nil[]]; drop a; let b = cons[n, nil[]]; drop b; n""")
        self.check("f", [1], 1, 1, (1, 0, 0, 0), program=program)
        program = read_text("""kind list = nil[] | cons[num, list]
            fun f(n: num): num = let a = cons[n, nil[]]; drop a; let b = cons[n, cons[n, nil[]]]; drop b; n""")
        self.check("f", [1], 2, 5, (1, 0) + (0,) * 6, program=program)

    def test_what_the_arguments_give_is_in_hand(self):
        program = read_text("""kind list = nil[] | cons[num, list]
            fun f(a: list, n: num): num = drop a; let b = cons[n, cons[n, cons[n, nil[]]]]; drop b; n""")
        for many in range(5):
            # With one less it is always the last one of three that wants.
            place = (1, 0) + (0,) * 5
            self.check("f", [row(range(many)), 5], max(0, 3 - many), 4, place, program=program)

    def test_it_never_falls_with_more_steps(self):
        for name, arguments in (("saved", [TWO, 3]), ("up", [9]), ("again", [1]), ("deep", [TWO, 3])):
            peaks = [peak(PROGRAM, name, arguments, steps) for steps in range(60)]
            self.assertEqual(peaks, sorted(peaks))

    def test_against_another_reading(self):
        ended = set()
        for seed in range(60):
            program, rng = random_program(seed), random.Random(seed)
            for name, parameters, _, _ in program[2]:
                arguments = [random_thing(rng, program, kind) for _, kind in parameters]
                steps = rng.choice([0, 1, 3, 20, 150])
                least = peak(program, name, arguments, steps)
                enough = plain_read(program, name, arguments, least, steps)
                ended.add(enough[0][0])
                self.assertNotEqual(enough[0], ("want",))
                self.assertEqual(need(program, name, arguments, steps),
                                 least + sum(size(thing) for thing in arguments))
                told = narrowest(program, name, arguments, steps)
                if least == 0:
                    self.assertIsNone(told)
                    continue
                short = plain_read(program, name, arguments, least - 1, steps)
                self.assertEqual((short[0], short[2]), (("want",), told[0]))
                states = plain_trace(program, name, arguments, least - 1, steps)
                self.assertEqual((states[-1], states[-2][0]), (("want",), told[1]))
        self.assertEqual(ended, {"value", "fault", "on"})


class ErrorsTest(Checks, unittest.TestCase):

    def test_their_order(self):
        for function in ALL:
            for odd in ODD:
                if odd != ("program", [], []):
                    self.refused(function, InvalidProgram, 0, odd, None, None, None)
                self.refused(function, InvalidName, 1, PROGRAM, odd, None, None)
            for odd in ODD + [[1], [1, True], (1, 2), [1, 2, 3], [1, 2 ** 63], [TWO, 1]]:
                self.refused(function, InvalidList, 2, PROGRAM, "add", odd, None)
            for odd in ODD + [-1, 100001, 10 ** 20, "5"]:
                if odd not in (0, 5) or isinstance(odd, bool):
                    self.refused(function, InvalidNumber, 3, PROGRAM, "add", [1, 2], odd)

    def test_the_greatest_number_of_steps(self):
        self.assertEqual([function(PROGRAM, "add", [1, 2], 100000) for function in ALL], [0, 0, None])


if __name__ == "__main__":
    unittest.main()
