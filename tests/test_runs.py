"""[45]: the machine runs as the reading does; [21], [28], [38] hold of it, too."""

import random
import unittest

from cellbills.bills import bill_or_refusal
from cellbills.checker import places_of
from cellbills.codegen import code_with, listing
from cellbills.judged import bill_of
from cellbills.machine import Machine, run
from cellbills.pairing import is_pairing, pairing
from cellbills.peaks import narrowest, need, peak
from cellbills.reader import read_text
from cellbills.reading import read
from cellbills.values import size
from tests.kept_things import are_kept_well
from tests.list_programs import list_arguments, list_program
from tests.plain_code import PlainCode
from tests.samples import NIL, random_program, random_thing, row
from tests.test_reading import PROGRAM

STEPS = 300


def other_listing(program, rng):
    """Return a listing by other right pairings and homes."""
    found = []
    for function in program[2]:
        name = function[0]
        pairs = [pair for pair in pairing(program, name) if rng.random() < 0.6]
        plain = PlainCode(function, pairs if is_pairing(program, name, pairs) else [])
        found.append((name, code_with(program, name, plain.pairs, plain.homes(rng.choice))))
    return found


def some_arguments(rng, program, function, lists):
    if lists:
        return list_arguments(rng, function[1])
    return [random_thing(rng, program, kind) for _, kind in function[1]]


class RunsTest(unittest.TestCase):

    def alike(self, program, rows, name, arguments, hand):
        """Check that the machine ends as the reading does, in as few rows as are enough."""
        outcome, left, many = read(program, name, arguments, hand, STEPS)
        cells = hand + sum(map(size, arguments))
        if cells > 50000:
            return None
        told = run(program, rows, name, arguments, cells, 54 * many + 54)
        if outcome[0] in ("value", "fault"):
            self.assertEqual(told[:2], (outcome, left))
            self.assertLessEqual(told[2], 54 * many)
        elif outcome[0] == "want":
            self.assertEqual(told[0], outcome)
        return outcome[0]

    def test_random_programs(self):
        seen = {"value": 0, "fault": 0, "want": 0, "on": 0, None: 0}
        for seed in range(44):
            rng = random.Random(seed)
            lists = seed % 2
            program = list_program(seed) if lists else random_program(seed)
            made, other = listing(program), other_listing(program, rng)
            for function in program[2]:
                name = function[0]
                for _ in range(2):
                    arguments = some_arguments(rng, program, function, lists)
                    least = peak(program, name, arguments, STEPS)
                    for hand in {least, max(0, least - 1), least + 3, rng.randrange(least + 1)}:
                        for rows in (made, other):
                            seen[self.alike(program, rows, name, arguments, hand)] += 1
        self.assertGreater(min(seen[word] for word in ("value", "fault", "want", "on")), 80)

    def test_programs_by_hand(self):
        rows, rng = listing(PROGRAM), random.Random(3)
        other = other_listing(PROGRAM, rng)
        one, three = row([4]), row([1, 2, 3])
        step = ("kept", "add", (5,))
        bare = ("kept", "id1", ())
        calls = [("turn", [three, one]), ("make1", [3]), ("makes", [3]), ("opens", [three]), ("opens", [NIL]),
                 ("keeps", [3]), ("bare", []), ("takes", [three]), ("calls0", [1]), ("calls1", [1, 2]),
                 ("calls3", [1, 2, 3, 4]), ("calls4", [1, 2, 3, 4, 5]), ("uses", [step, 3]), ("uses", [bare, 3]),
                 ("uses", [("kept", "failing", (three,)), 3]), ("goes", [step, 3]), ("goes", [bare, 3]),
                 ("tries", [three, 3]), ("catches", [three, 3]), ("plain", [1]), ("deep", [three, 3]),
                 ("saved", [three, 3]), ("drops", [("node", "two", (three, one))]), ("test1", [True]),
                 ("test1", [False]), ("up", [9])]
        for name, arguments in calls:
            least = peak(PROGRAM, name, arguments, STEPS)
            for hand in {0, max(0, least - 1), least, least + 1, least + 9}:
                for listed in (rows, other):
                    self.assertIsNotNone(self.alike(PROGRAM, listed, name, arguments, hand))

    def test_one_cell_less_than_the_need(self):
        many = 0
        for seed in range(40):
            rng = random.Random(seed)
            lists = seed % 2
            program = list_program(seed) if lists else random_program(seed)
            rows = listing(program)
            for function in program[2]:
                name = function[0]
                arguments = some_arguments(rng, program, function, lists)
                told = narrowest(program, name, arguments, STEPS)
                if told is None or told[0] >= STEPS or need(program, name, arguments, STEPS) > 3000:
                    continue
                machine = Machine(program, rows, name, arguments, need(program, name, arguments, STEPS) - 1)
                self.assertEqual(machine.run(54 * STEPS), ("want",))
                where, at = machine.place
                own = next(own for own in program[2] if own[0] == where)
                plain = PlainCode(own, pairing(program, where))
                _, firsts = plain.code(plain.homes(min))
                step = max(number for number, first in enumerate(firsts) if first <= at)
                self.assertEqual(places_of(program, where)[step], told[1])
                many += 1
        self.assertGreater(many, 40)

    def test_bills_are_enough(self):
        many = 0
        for seed in range(60):
            rng = random.Random(seed)
            lists = seed % 3
            program = list_program(seed, 3, 4) if lists else random_program(seed)
            word, bill = bill_or_refusal(program)
            if word != "bill":
                continue
            rows = listing(program)
            for function in program[2]:
                arguments = some_arguments(rng, program, function, lists)
                if not are_kept_well(program, [kind for _, kind in function[1]], arguments):
                    continue
                cells = bill_of(program, bill, function[0], arguments) + sum(map(size, arguments))
                if cells <= 50000:
                    told = run(program, rows, function[0], arguments, cells, 20000)
                    self.assertNotIn(told[0], (("want",), ("stuck",)))
                    many += 1
        self.assertGreater(many, 30)

    def test_a_pairing_needs_just_as_many_cells(self):
        program = read_text("""kind list = nil[] | cons[num, list]
            fun turn(x: list, y: list): list = match x { nil[]: y cons[h, t]: go turn(t, cons[h, y]) }
            fun both(x: list, y: list): list = match x { nil[]: y cons[h, t]: let a = cons[h, t]; match y {
              nil[]: a cons[i, u]: let b = cons[i, a]; let c = cons[i, u]; go turn(b, c) } }""")
        for name in ("turn", "both"):
            for x in range(4):
                for y in range(4):
                    arguments = [row(range(x)), row(range(y))]
                    cells = need(program, name, arguments, 1000)
                    full = [pair for pair in pairing(program, name)]
                    for pairs in ([], full):
                        rows = [(own[0], code_with(program, own[0], pairs if own[0] == name else [], PlainCode(
                            own, pairs if own[0] == name else []).homes(min))) for own in program[2]]
                        self.assertEqual(run(program, rows, name, arguments, cells, 1000)[0][0], "value")
                        if cells > x + y:
                            self.assertEqual(run(program, rows, name, arguments, cells - 1, 1000)[0], ("want",))


if __name__ == "__main__":
    unittest.main()
