"""Demands: the inequalities of the own functions of a unit, and what follows of them.

Unknowns are told by their numbers: the prices first, behind them the inner ones. A tuple of a
face is (numbers, least), as in the document. A paper is a list of whole numbers or fractions,
how often each demand is taken.
"""

from cellbills.ratios import fraction, scaled
from cellbills.rules import inequalities_of
from cellbills.simplex import Tableau, amounts_of, bound_prices, endless_amounts
from cellbills.tariffs import Tariff
from cellbills.units import alone_of


class Demands:
    """Rows (counts, least) over so many unknowns, the first ones of which are prices."""

    def __init__(self, rows, prices, total):
        self.rows = rows
        self.prices = prices
        self.total = total

    def inner_counts(self, counts):
        """Return how often the inner unknowns stand in counts, numbered from 0 on."""
        return [(number - self.prices, often) for number, often in counts if number >= self.prices]


def demands_of(unit):
    """Return the demands of what is known to be a unit."""
    program = alone_of(unit)
    own, tariff = len(unit[4]), Tariff(program)
    rows = [(counts, least) for place, counts, least in inequalities_of(program) if place[1] < own]
    return Demands(rows, tariff.priced, tariff.total)


def demands_of_tuples(tuples, many):
    """Return the tuples of a face as demands, so many prices being all there are."""
    rows = [([(at, often) for at, often in enumerate(numbers) if often], least)
            for numbers, least in tuples]
    return Demands(rows, many, many)


def amounts_behind(tableau, amounts, many):
    """Return the list of so many amounts of rows that a dict tells by variables, 0 for others."""
    return [amounts.get(tableau.bounds + at, (0, 1)) for at in range(many)]


def inner_or_sums(demands, row):
    """Return the list of inner numbers that go with a row of prices, or None; and sums, or None.

    Sums are a paper that shows that there are no such inner numbers.
    """
    rates, scale = scaled(row)
    rows = []
    for counts, least in demands.rows:
        known = sum([often * rates[number] for number, often in counts if number < demands.prices])
        rows.append((demands.inner_counts(counts), least * scale - known))
    tableau = Tableau([0] * (demands.total - demands.prices), rows)
    endless = tableau.solve()
    if endless is not None:
        return None, amounts_behind(tableau, endless_amounts(tableau, endless), len(rows))
    return [fraction(above, below * scale) for above, below in bound_prices(tableau)], None


def let_row(demands):
    """Return any row of prices that demands let, None if there is none."""
    tableau = Tableau([0] * demands.total, demands.rows)
    if tableau.solve() is not None:
        return None
    return bound_prices(tableau)[:demands.prices]


def summed_tuple(demands, sums):
    """Return the tuple of a face to which demands sum up, each so many times, in whole numbers.

    Behind it stand the sums for it.
    """
    times, _ = scaled(sums)
    numbers, total = [0] * demands.prices, 0
    for (counts, least), often in zip(demands.rows, times):
        total += least * often
        for number, count in counts:
            if number < demands.prices:
                numbers[number] += count * often
    return numbers, total, [(often, 1) for often in times]


def told_often(number, often):
    """Return the list that tells how often an unknown stands in a row, if it does."""
    return [(number, often)] if often else []


class Question:
    """Whether demands ask for a tuple (numbers, least) of a face; the answer shows either way.

    Wanted is how often each demand is taken, so that they sum up to the tuple taken once. The
    tuple counts as a further row that is taken at most once, with its signs turned: if it can be
    taken at all, it can be taken just so often.
    """

    def __init__(self, demands, numbers, least):
        self.demands = demands
        floor, once = demands.total, demands.total + 1
        rows = [(counts + told_often(floor, -own), 0) for counts, own in demands.rows]
        turned = [(at, -often) for at, often in enumerate(numbers) if often]
        rows.append((turned + told_often(floor, least) + [(once, 1)], 1))
        self.tableau = Tableau([0] * (floor + 1) + [1], rows)
        self.tableau.solve()

    def sums(self):
        """Return how often each demand is taken, None if the tuple is not asked for."""
        if self.tableau.goal.right == 0:
            return None
        return amounts_behind(self.tableau, amounts_of(self.tableau), len(self.demands.rows))

    def against(self):
        """Return prices and a number: what bears out that the tuple is not asked for.

        If the number is above 0, the prices divided by it are let and fall short of the tuple;
        if it is 0, so do any that are let with the prices added often enough.
        """
        found = bound_prices(self.tableau)
        return found[:self.demands.prices], found[self.demands.total]


def asks_for(demands, numbers, least):
    """Tell whether demands ask for a tuple of a face."""
    return Question(demands, numbers, least).sums() is not None
