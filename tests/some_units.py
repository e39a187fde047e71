"""Random small units, and what a paper has to be, looked at plainly."""

import random
from fractions import Fraction
from math import gcd

from cellbills.names import functions_in
from cellbills.rules import inequalities, unknowns
from cellbills.units import alone, parted
from tests.list_programs import list_program
from tests.samples import random_program


def some_units(seed):
    """Return the units of a random program parted at random; none if one takes too much."""
    rng = random.Random(seed)
    if seed % 3 == 0:
        program = random_program(seed)
    else:
        program = list_program(seed, rng.choice([1, 2, 3, 4]), rng.choice([3, 4, 5]), rng.choice([2, 4, 6]))
    lots = [[] for _ in range(rng.randrange(1, 4))]
    for name in rng.sample([own[0] for own in program[2]], len(program[2])):
        rng.choice(lots).append(name)
    used = [{name for own in program[2] if own[0] in lot for name in functions_in(own[3])} - set(lot) for lot in lots]
    return parted(program, lots) if max(map(len, used)) <= 12 else []


class Told:
    """The demands of a unit, as the document tells them."""

    def __init__(self, unit):
        program, own = alone(unit), len(unit[4])
        found = unknowns(program)
        self.prices = len([name for name in found if name[0] != "make"])
        self.inner = len(found) - self.prices
        self.rows = [(dict(counts), least) for place, counts, least in inequalities(program) if place[1] < own]
        self.makes = len({name[1] for name in found if name[0] == "make"})

    def is_small(self):
        return self.prices <= 16 and len(self.rows) <= 24 and self.makes <= 6

    def holds(self, row, inner):
        """Tell whether prices and inner numbers keep all demands."""
        if len(inner) != self.inner or not are_amounts(inner):
            return False
        numbers = [Fraction(*own) for own in row + inner]
        return all(sum(often * numbers[at] for at, often in counts.items()) >= least for counts, least in self.rows)

    def is_paper(self, numbers, least, sums):
        """Tell whether demands, each so many times, sum to what a tuple of a face needs."""
        if len(sums) != len(self.rows) or not are_amounts(sums):
            return False
        total = [0] * (self.prices + self.inner)
        for (counts, _), often in zip(self.rows, sums):
            for at, count in counts.items():
                total[at] += count * Fraction(*often)
        told = sum(own * Fraction(*often) for (_, own), often in zip(self.rows, sums))
        return (told >= least and all(own <= 0 for own in total[self.prices:])
                and all(own <= number for own, number in zip(total, numbers)))


def are_amounts(values):
    """Tell whether values are fractions from 0 on in least terms."""
    return all(above >= 0 and below > 0 and gcd(above, below) == 1 for above, below in values)


def value_of(numbers, row):
    return sum(number * Fraction(*own) for number, own in zip(numbers, row))


def told_fraction(number):
    return number.numerator, number.denominator


def row_at(rng, tuples, row, short):
    """Return a row of prices that just keeps one of the tuples of a face, or is a little short of it."""
    numbers, least = rng.choice(tuples)
    able = [at for at, number in enumerate(numbers) if number]
    if not able:
        return row
    at = rng.choice(able)
    others = value_of(numbers, row) - numbers[at] * Fraction(*row[at])
    wanted = (least - short - others) / numbers[at]
    return row[:at] + [told_fraction(max(Fraction(0), wanted))] + row[at + 1:]
