"""Bills found: any bill or a refusal, and the least bill for arguments, with a paper."""

from cellbills.checker import ask_program, function_number
from cellbills.funds import funds_of
from cellbills.judged import is_bill_of, is_refusal_of, sum_by, summed_least, sums_within
from cellbills.ratios import are_amounts, fraction
from cellbills.reading import ask_arguments
from cellbills.rules import inequalities_of
from cellbills.simplex import Tableau, amounts_of, bound_prices, endless_amounts
from cellbills.tariffs import Tariff


def is_idle(counts, least):
    """Tell whether an inequality always holds, unknowns being at least 0."""
    return least <= 0 and all([often > 0 for _, often in counts])


def telling_rows(rows):
    """Return the numbers of inequalities from which all others follow plainly."""
    best = {}
    for number, (_, counts, least) in enumerate(rows):
        if is_idle(counts, least):
            continue
        # Of those in which the same unknowns stand the strictest one will do.
        key = tuple(counts)
        if key not in best or least > rows[best[key]][2]:
            best[key] = number
    return list(best.values())


def placed(amounts, many):
    """Return the list of so many fractions that a dict tells by their numbers, 0 for others."""
    return [amounts.get(number, (0, 1)) for number in range(many)]


class Solution:
    """What comes of the inequalities of a program, for bounds of how often unknowns count."""

    def __init__(self, program, counts):
        self.rows = inequalities_of(program)
        tariff = Tariff(program)
        self.total, self.priced = tariff.total, tariff.priced
        self.telling = telling_rows(self.rows)
        bounds = [counts.get(number, 0) for number in range(self.total)]
        self.tableau = Tableau(bounds, [self.rows[number][1:] for number in self.telling])
        self.endless = self.tableau.solve()

    def spread(self, amounts):
        """Return the list of amounts of all inequalities, of a dict by variables."""
        told = {}
        for own, amount in amounts.items():
            if own >= self.total:
                told[self.telling[own - self.total]] = amount
        return placed(told, len(self.rows))

    def refusal(self):
        """Return the amounts of inequalities that make their sum grow without end."""
        return self.spread(endless_amounts(self.tableau, self.endless))

    def paper(self):
        """Return the amounts of inequalities that make their sum the greatest."""
        return self.spread(amounts_of(self.tableau))

    def bill(self):
        """Return the least amounts of unknowns, which are the prices of their bounds."""
        return bound_prices(self.tableau)

    def least(self):
        """Return the sum that the bill tells."""
        goal = self.tableau.goal
        return fraction(goal.right, goal.below)


def bill_or_refusal(program):
    """Return any bill of a program, or any refusal."""
    ask_program(program)
    solution = Solution(program, {})
    if solution.endless is not None:
        return "refusal", solution.refusal()
    return "bill", solution.bill()


def ask_values(program, name, values):
    """Raise the error for the first one that is wrong of what is asked of a function."""
    ask_program(program)
    function_number(program, name)
    ask_arguments(program, name, values)


def counts_for(program, name, values):
    """Return the dict of how often unknowns stand in the sum that a bill tells."""
    return funds_of(Tariff(program), name, values)


def least_bill(program, name, values):
    """Return a bill of the least sum for a function and arguments, with a paper."""
    ask_values(program, name, values)
    solution = Solution(program, counts_for(program, name, values))
    if solution.endless is not None:
        return "refusal", solution.refusal()
    return "least", solution.bill(), solution.least(), solution.paper()


def is_least_form(value):
    """Tell whether a value has the form of what tells a least bill, but for its parts."""
    return isinstance(value, tuple) and len(value) == 4 and value[0] == "least"


def is_refusal_form(value):
    """Tell whether a value has the form of what tells a refusal, but for the refusal."""
    return isinstance(value, tuple) and len(value) == 2 and value[0] == "refusal"


def is_paper(rows, counts, total, value):
    """Tell whether a value shows that no bill tells less than a total."""
    if not are_amounts(value, len(rows)):
        return False
    return summed_least(rows, value) == total and sums_within(rows, value, counts)


def is_least(program, name, values, value):
    """Tell whether a value may be told as the least bill."""
    ask_values(program, name, values)
    if is_refusal_form(value):
        return is_refusal_of(program, value[1])
    if not is_least_form(value):
        return False
    _, bill, total, paper = value
    if not are_amounts([total], 1) or not is_bill_of(program, bill):
        return False
    counts = counts_for(program, name, values)
    if sum_by(list(counts.items()), bill) != total:
        return False
    return is_paper(inequalities_of(program), counts, total, paper)
