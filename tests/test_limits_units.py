"""[3]: what stands at the limits of units, faces and standing machines is answered within seconds."""

import random
import time
import unittest
from math import gcd

from cellbills.codegen import listing
from cellbills.faces import cut, face, face_sums, faces_bill, inner_numbers, is_face, keeps, prices, unlet
from cellbills.forest import is_forest
from cellbills.linker import files_linked, is_file, unit_file
from cellbills.machine import Machine
from cellbills.reader import read_text
from cellbills.units import alone, is_unit, linked, misfit, parted
from cellbills.where import first_rows, line_of, standing, to_next_step, where
from cellbills.workshop import Workshop
from tests.list_programs import list_program
from tests.some_units import Told
from tests.test_limits_machine import BIG
from tests.test_units import unit

SECONDS = 30
ONE = [("choice", "k", [("c", [])])]


def handing(makes, ways, takes):
    """Return a unit that makes some nodes and hands all of them on, in several ways."""
    names = tuple(f"r{number}" for number in range(makes))
    calls = [("call", f"x{at}", f"t{at % takes}", names, ("end", f"x{at}")) for at in range(ways)]
    step = calls[0]
    for call in calls[1:]:
        step = ("test", "b", call, step)
    for name in names[::-1]:
        step = ("make", name, "c", (), step)
    taken = [(f"t{number}", ["k"] * makes, "num") for number in range(takes)]
    return unit("u", ONE, taken, [("f", [("b", "flag")], "num", step)])


def large_units():
    """Return units of about 40 prices and 60 demands, of programs over lists."""
    found = []
    for seed in range(40):
        program = list_program(seed, 12, 6, 6)
        names = [own[0] for own in program[2]]
        for own in parted(program, [names[at:at + 3] for at in range(0, 12, 3)]):
            told = Told(own)
            if told.prices <= 46 and 50 <= len(told.rows) <= 66:
                found.append(own)
    return found


class LimitsTest(unittest.TestCase):

    def within(self, call, *arguments):
        start = time.monotonic()
        told = call(*arguments)
        self.assertLess(time.monotonic() - start, SECONDS, call)
        return told

    def test_large_units(self):
        units, rng = large_units(), random.Random(1)
        self.assertGreater(len(units), 5)
        for own in units[:12]:
            many = self.within(prices, own)
            for size in (1, 4, 10 ** 30 - 1):
                pairs = [(rng.randrange(size + 1), rng.randrange(1, size + 1)) for _ in range(many)]
                row = [(above // gcd(above, below), below // gcd(above, below)) for above, below in pairs]
                numbers, wrong = self.within(inner_numbers, own, row), self.within(cut, own, row)
                self.assertIs(numbers is None, wrong is not None)
                told = [rng.randrange(-size, size + 1) for _ in row]
                sums = self.within(face_sums, own, told, size)
                if sums is not None:
                    self.assertTrue(Told(own).is_paper(told, size, sums))

    def test_faces(self):
        for makes, ways, takes in ((6, 2, 1), (4, 3, 1), (2, 5, 2)):
            own = handing(makes, ways, takes)
            self.assertTrue(is_unit(own))
            told = self.within(face, own)
            self.assertTrue(self.within(is_face, own, told))
            self.assertIsNone(self.within(unlet, own, own))
        # Several lower bounds of each rate multiply in the tuples.
        self.assertGreater(len(face(handing(6, 2, 2))), 60)

    def test_faces_of_600_tuples(self):
        rng = random.Random(3)
        for own in (handing(6, 2, 1), handing(4, 2, 2)):
            told, many = face(own), prices(own)
            for size in (3, 10 ** 29):
                longer = list(told)
                while len(longer) < 600:
                    picks = [(rng.randrange(1, size), rng.choice(told)) for _ in range(3)]
                    longer.append(([sum(often * part[0][at] for often, part in picks) for at in range(many)],
                                   sum(often * part[1] for often, part in picks)))
                rng.shuffle(longer)
                self.assertTrue(self.within(is_face, own, longer))
                row = [(rng.randrange(9), 1) for _ in range(many)]
                self.assertIs(self.within(keeps, longer, row), inner_numbers(own, row) is not None)
                spoilt = longer[:599] + [([0] * (many - 1) + [1], 1)]
                self.assertFalse(self.within(is_face, own, spoilt))

    def test_twelve_units(self):
        for seed in (2, 10, 13):
            program = list_program(seed, 36, 6, 6)
            names = [own[0] for own in program[2]]
            units = parted(program, [names[at:at + 3] for at in range(0, 36, 3)])
            self.assertEqual(len(units), 12)
            self.assertIsNone(self.within(misfit, units))
            self.within(faces_bill, units)
            files = [self.within(unit_file, own) for own in units]
            self.assertTrue(all(is_file(own) for own in files))
            self.assertEqual(self.within(files_linked, files), listing(linked(units)))

    def test_units_with_long_bodies(self):
        names = [own[0] for own in BIG[2]]
        lots = [names[at::12] for at in range(12)]
        units = self.within(parted, BIG, lots)
        self.assertEqual(len(self.within(linked, units)[2]), 40)
        self.assertEqual(len(self.within(alone, units[0])[2]), 4)
        workshop = Workshop()
        for own in units:
            self.within(workshop.put, own)
        self.assertEqual(len(self.within(workshop.code)), 40)
        self.within(workshop.copy)
        self.assertEqual(len(self.within(workshop.log)), 12)
        self.assertTrue(self.within(workshop.__eq__, workshop.copy()))
        self.within(workshop.run, "t0", [("node", "nil", ())], 50000, 100)

    def test_machines_of_50000_cells(self):
        program = read_text("""fun down(n: num): num = if n < 1 then n else let r = down(n - 1); r + n""")
        machine = Machine(program, listing(program), "down", [49999], 50000)
        machine.run(8 * 49999)
        while where(program, machine) is None:
            machine.step()
        told = self.within(where, program, machine)
        self.assertGreater(len(told[2]), 40000)
        self.assertEqual(len(self.within(standing, program, machine)), len(told[2]) + 1)
        self.within(to_next_step, program, machine)
        self.assertTrue(self.within(is_forest, self.within(machine.picture)))

    def test_machines_of_long_programs(self):
        rows = listing(BIG)
        machine = Machine(BIG, rows, "a3", [5, ("node", "nil", ())], 9)
        self.assertEqual(self.within(where, BIG, machine)[0], (1, 3, 0))
        self.assertEqual(self.within(to_next_step, BIG, machine), 1)
        self.assertEqual(len(self.within(first_rows, BIG, "t9")), 397)
        self.assertEqual(self.within(line_of, BIG, (1, 3) + (0,) * 400), 2 + 3 * 401 + 400)
        self.assertEqual(len(self.within(standing, BIG, machine)), 1)


if __name__ == "__main__":
    unittest.main()
