"""[56], [57], [58]: where a machine stands, against the states of the reading."""

import random
import unittest

from cellbills.checker import places_of, step_at
from cellbills.codegen import code_of, listing
from cellbills.errors import InvalidList, InvalidName, InvalidProgram, InvalidRows
from cellbills.machine import Machine
from cellbills.pairing import pairing
from cellbills.papers import trace
from cellbills.peaks import peak
from cellbills.printer import written
from cellbills.reader import read_text
from cellbills.values import size
from cellbills.where import first_rows, line_of, standing, to_next_step, where
from tests.checks import Checks
from tests.list_programs import list_arguments, list_program
from tests.plain_code import PlainCode
from tests.samples import EMPTY, NIL, ODD, random_program, random_thing, row
from tests.test_reading import PROGRAM

ROWS = listing(PROGRAM)
ONE, THREE = row([4]), row([1, 2, 3])
STEP = ("kept", "add", (5,))


class Base(Checks, unittest.TestCase):

    def made(self, name, arguments, hand, program=PROGRAM, rows=None):
        cells = hand + sum(map(size, arguments))
        return Machine(program, rows or ROWS, name, arguments, cells)


class WhereTest(Base):

    def along(self, program, rows, name, arguments, hand, steps):
        """Drive a machine step by step beside the reading; return how many steps it took."""
        machine = self.made(name, arguments, hand, program, rows)
        states = trace(program, name, arguments, hand, steps)
        table = {}
        for state in states:
            if isinstance(state[0], str):
                self.assertEqual(machine.outcome, state)
                self.is_told_none(program, machine)
                self.assertEqual(to_next_step(program, machine), 0)
                break
            self.assertEqual(repr(where(program, machine)), repr(state))
            places = [place for place, _ in state[2]] + [state[0]]
            table.update({place: line_of(program, place) for place in places if place not in table})
            lines = [(program[2][place[1]][0], table[place]) for place in places]
            self.assertEqual(standing(program, machine), lines)
            before = machine.many
            self.assertEqual(to_next_step(program, machine), machine.many - before)
        return len(states)

    def is_told_none(self, program, machine):
        self.assertIsNone(where(program, machine))
        self.assertIsNone(standing(program, machine))

    def test_programs_by_hand(self):
        calls = [("turn", [THREE, ONE]), ("makes", [3]), ("opens", [THREE]), ("keeps", [3]), ("bare", []), ("takes", [THREE]),
                 ("calls0", [1]), ("calls1", [1, 2]), ("calls4", [1, 2, 3, 4, 5]), ("uses", [STEP, 3]),
                 ("uses", [("kept", "failing", (THREE,)), 3]), ("goes", [STEP, 3]), ("tries", [THREE, 3]),
                 ("catches", [THREE, 3]), ("plain", [1]), ("deep", [THREE, 3]), ("saved", [THREE, 3]),
                 ("test1", [False]), ("up", [9]), ("again", [3]), ("ever", [3])]
        for name, arguments in calls:
            least = peak(PROGRAM, name, arguments, 100)
            for hand in {0, max(0, least - 1), least, least + 3}:
                self.along(PROGRAM, ROWS, name, arguments, hand, 40)

    def test_random_programs(self):
        many = 0
        for seed in range(14):
            rng = random.Random(seed)
            lists = seed % 2
            program = list_program(seed) if lists else random_program(seed)
            rows = listing(program)
            for function in program[2]:
                name, parameters = function[:2]
                arguments = list_arguments(rng, parameters) if lists else [
                    random_thing(rng, program, kind) for _, kind in parameters]
                least = peak(program, name, arguments, 40)
                many += self.along(program, rows, name, arguments, least, 40)
                if least:
                    self.along(program, rows, name, arguments, rng.randrange(least), 40)
        self.assertGreater(many, 400)

    def test_amid_steps_and_at_the_end(self):
        for name, arguments in (("saved", [THREE, 3]), ("turn", [THREE, ONE]), ("uses", [STEP, 3])):
            machine = self.made(name, arguments, 30)
            tables = {own[0]: first_rows(PROGRAM, own[0]) for own in PROGRAM[2]}
            while machine.outcome is None:
                function, number = machine.place
                firsts = tables[function]
                told = where(PROGRAM, machine)
                self.assertIs(told is None, number not in firsts)
                self.assertIs(standing(PROGRAM, machine) is None, number not in firsts)
                if told is not None:
                    self.assertEqual(told[0], places_of(PROGRAM, function)[firsts.index(number)])
                # Amid a step it goes on to the next one, as a copy driven row by row does.
                one, other = machine.copy(), machine.copy()
                rows = to_next_step(PROGRAM, one)
                for many in range(1, rows + 1):
                    other.step()
                    at_step = other.outcome is None and other.place[1] in tables[other.place[0]]
                    self.assertIs(many == rows, at_step or other.outcome is not None)
                self.assertTrue(one == other)
                machine.step()
            self.is_told_none(PROGRAM, machine)
            self.assertEqual(to_next_step(PROGRAM, machine), 0)

    def test_machines_that_want(self):
        machine = self.made("makes", [3], 1)
        self.assertEqual([to_next_step(PROGRAM, machine) for _ in range(4)], [1, 1, 0, 0])
        self.assertEqual(machine.outcome, ("want",))
        self.is_told_none(PROGRAM, machine)
        # The row that wants stands behind one that frees a cell: that one is done.
        program = read_text("""kind list = nil[] | cons[num, list] fun f(x: list, c: flag, n: num, m: num, k: num): list =
            match x { nil[]: nil[] cons[h, t]: if c then cons[h, t] else
            let r = f(t, c, n, m, k); cons[h + n, cons[m + k, r]] }""")
        self.assertEqual(pairing(program, "f"), [(4, 0)])
        machine = self.made("f", [ONE, False, 1, 2, 3], 0, program, listing(program))
        self.assertEqual([to_next_step(program, machine) for _ in range(4)], [1, 1, 1, 0])
        self.assertEqual((machine.outcome, machine.available(), machine.many), (("want",), 1, 3))
        self.is_told_none(program, machine)

    def test_frames_behind_cells_that_come_free(self):
        # The rows that lay the frames stand behind one that frees a cell, and behind two.
        program = read_text("""kind list = nil[] | cons[num, list]
            fun f(x: list, c: flag, n: num): list = match x { nil[]: nil[] cons[h, t]: if c then cons[h, t] else
            let r = f(t, c, n); cons[h + n, r] }
            fun g(x: list, y: list, c: flag): list = match x { nil[]: y cons[h, t]: match y { nil[]: t cons[i, u]:
            if c then cons[h, cons[i, drops(t, u)]] else try r = g(t, u, c) then cons[h, r] catch e then cons[i, nil[]] } }
            fun k(x: list, y: list, c: flag): list = match x { nil[]: y cons[h, t]: match y { nil[]: t cons[i, u]:
            if c then let d = h; drop u; let a = cons[h, t]; cons[i, a] else try r = k(t, u, c) then cons[h, r] catch e then
            cons[i, nil[]] } }
            fun drops(x: list, y: list): list = drop x; y""")
        rows = listing(program)
        words = [[word[0] for word in own] for _, own in rows]
        self.assertTrue(any(own[at:at + 2] == ["free", "push"] for own in words for at in range(len(own))))
        self.assertTrue(any(own[at:at + 3] == ["free", "free", "handle"] for own in words for at in range(len(own))))
        for name, arguments in (("f", [THREE, False, 1]), ("g", [THREE, row([4, 5]), False]), ("k", [THREE, row([4, 5]), False]),
                                ("k", [THREE, THREE, True])):
            least = peak(program, name, arguments, 100)
            for hand in (least, least + 5):
                self.along(program, rows, name, arguments, hand, 60)

    def test_cells_that_are_hollow(self):
        machine = self.made("turn", [row([1, 2]), NIL], 3)
        self.assertEqual(where(PROGRAM, machine)[1:], ([("x", row([1, 2])), ("y", NIL)], [], 3))
        to_next_step(PROGRAM, machine)
        # One cell is hollow: it counts, and the name that was taken is not alive any more.
        self.assertEqual(machine.available(), 3)
        self.assertEqual(where(PROGRAM, machine)[1:], ([("h", 1), ("t", row([2])), ("y", NIL)], [], 4))
        to_next_step(PROGRAM, machine)
        self.assertEqual(where(PROGRAM, machine)[3], 3)

    def test_frames(self):
        machine = self.made("saved", [THREE, 7], 40)
        deepest = []
        while machine.outcome is None:
            told = where(PROGRAM, machine)
            if len(told[2]) > len(deepest):
                deepest = told[2]
            to_next_step(PROGRAM, machine)
        names = [(PROGRAM[2][place[1]][0], step_at(PROGRAM, place)[0], kept) for place, kept in deepest]
        self.assertEqual(names, [
            ("saved", "try", [("k", row([7, 7]))]), ("deep", "call", [("l", THREE)]), ("deeper", "call", [("n", 7)])])

    def test_what_is_told_is_new(self):
        machine = self.made("deep", [THREE, 3], 20)
        for _ in range(3):
            to_next_step(PROGRAM, machine)
        before = machine.copy()
        one, many = where(PROGRAM, machine), len(where(PROGRAM, machine)[2])
        self.assertGreater(many, 1)
        one[1].clear()
        one[2][0][1].clear()
        one[2].clear()
        self.assertTrue(machine == before)
        self.assertEqual(len(where(PROGRAM, machine)[2]), many)

    def test_errors(self):
        machine = self.made("up", [3], 20)
        other = read_text("fun up(n: num): num = n")
        theirs = Machine(other, listing(other), "up", [3], 0)
        for call in (where, to_next_step, standing):
            for odd in ODD:
                if odd != EMPTY:
                    self.refused(call, InvalidProgram, 0, odd, machine)
                    self.refused(call, InvalidProgram, 0, odd, None)
                self.refused(call, InvalidRows, 1, PROGRAM, odd)
            with self.assertRaises(InvalidRows) as caught:
                call(PROGRAM, theirs)
            self.assertIs(caught.exception.value, theirs)
            with self.assertRaises(InvalidRows):
                call(other, machine)
            # Another kind that no function names, another order of functions, another body.
            for near in (("program", PROGRAM[1] + [("choice", "more", [("more1", [])])], PROGRAM[2]),
                         ("program", PROGRAM[1], PROGRAM[2][1:] + PROGRAM[2][:1]),
                         ("program", PROGRAM[1], PROGRAM[2][:-1] + [PROGRAM[2][-1][:3] + (("end", "n"),)])):
                self.refused(call, InvalidRows, 1, near, machine)
        # A program that is equal is the same.
        self.assertEqual(where(("program", list(PROGRAM[1]), list(PROGRAM[2])), machine), where(PROGRAM, machine))
        for odd in ODD:
            if odd != EMPTY:
                self.refused(first_rows, InvalidProgram, 0, odd, None)
                self.refused(line_of, InvalidProgram, 0, odd, None)
            self.refused(first_rows, InvalidName, 1, PROGRAM, odd)
            if odd != (1, 0, 0):
                self.refused(line_of, InvalidList, 1, PROGRAM, odd)
        for place in ((), (0, 0), (1, 0), (1, 0, 1), (1, 0, 0, 1), (1, 99, 0), (1, 0, False), [1, 0, 0], (True, 0, 0),
                      (1, 0, 0, 0, 0), (1, -1, 0)):
            self.refused(line_of, InvalidList, 1, PROGRAM, place)


class LinesTest(Base):

    def test_first_rows(self):
        for program in (PROGRAM, list_program(3), random_program(5)):
            for function in program[2]:
                name = function[0]
                told = self.told(first_rows, program, name)
                plain = PlainCode(function, pairing(program, name))
                self.assertEqual(told, plain.code(plain.homes(min))[1])
                self.assertEqual(told[0], 0)
                self.assertLess(told[-1], len(code_of(program, name)))

    def starts(self, step):
        """Return with what the line of a step begins."""
        words = {"take": "match ", "test": "if ", "try": "try ", "go": "go ", "usego": "go use ", "raise": "raise ", "drop": "drop "}
        if step[0] == "end":
            return step[1]
        if step[0] in words:
            return words[step[0]] + ("" if step[0] in ("go", "usego") else step[1])
        return f"let {step[1]} = "

    def test_each_step(self):
        for seed in range(4):
            for program in (random_program(seed), list_program(seed), PROGRAM)[:2 + (seed == 0)]:
                lines = written(program).split("\n")
                for function in program[2]:
                    told = []
                    for place in places_of(program, function[0]):
                        number = line_of(program, place)
                        line = lines[number - 1]
                        self.assertTrue(line.strip().startswith(self.starts(step_at(program, place))), line)
                        self.assertTrue(line.startswith("  "))
                        told.append(number)
                    self.assertEqual(told, sorted(set(told)))

    def test_by_hand(self):
        program = read_text("""kind list = nil[] | cons[num, list] calls step = (num) to num
            fun f(n: num): num = n
            fun g(l: list, c: flag): num = let a = 1; match l { nil[]: if c then a else try x = f(a) then x catch e then raise e
              cons[h, t]: drop t; h }""")
        self.assertEqual(line_of(program, (1, 0, 0)), 4)
        lines = [line_of(program, place) for place in places_of(program, "g")]
        self.assertEqual(lines, [6, 7, 9, 10, 12, 13, 15, 17, 18])
        self.assertEqual(written(program).split("\n")[11], "        try x = f(a) then")

    def test_standing(self):
        program = read_text("""fun f(n: num): num = if n < 1 then raise n else
            try x = g(n) then x catch e then e
            fun g(n: num): num = let r = f(n - 1); r + n""")
        machine = self.made("f", [2], 50, program, listing(program))
        seen = []
        while machine.outcome is None:
            seen.append(standing(program, machine))
            to_next_step(program, machine)
        self.assertEqual(seen[0], [("f", 2)])
        self.assertIn([("f", 7), ("g", 14), ("f", 7), ("g", 14), ("f", 5)], seen)
        self.assertEqual(max(map(len, seen)), 5)
        self.assertEqual(machine.outcome, ("value", 2))


if __name__ == "__main__":
    unittest.main()
