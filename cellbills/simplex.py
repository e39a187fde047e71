"""The greatest sum of amounts of rows under bounds, told exactly.

Rows are lists of (number, often) with a least each. Wanted are amounts of the rows, at least
0, so that in their sum no number stands more often than its bound, 0 or more, and the sum of
the leasts is the greatest one. What solves this also tells the least amounts of the numbers
for which each row holds: those are the prices of the bounds.

A line of the tableau is a dict of whole numbers by the variables that are 0: the line's own
variable, `below` times, is `right` less the sum of these, each so often. Variables are told
by numbers: first the room that is left below the bounds, behind it the amounts of the rows.
"""

from math import gcd

from cellbills.ratios import fraction

# So many steps that bring nothing are let before the way of choosing is changed.
PATIENCE = 30


class Line:
    """A line of the tableau."""

    def __init__(self, own, right, nudge):
        self.own = own
        self.below = 1
        self.right = right
        # Stands behind `right` as if it were a very small part: few lines are level then.
        self.nudge = nudge
        self.counts = {}

    def turn(self, enters):
        """Let another variable be the line's own one."""
        below = self.counts.pop(enters)
        self.counts[self.own] = self.below
        self.own = enters
        self.below = below

    def rid_of(self, other):
        """Take the own variable of another line out of this one."""
        often = self.counts.pop(other.own, 0)
        if often == 0:
            return
        common = gcd(often, other.below)
        often, scale = often // common, other.below // common
        counts = self.counts
        if scale != 1:
            self.below *= scale
            self.right *= scale
            self.nudge *= scale
            for number in list(counts):
                counts[number] *= scale
        self.right -= often * other.right
        self.nudge -= often * other.nudge
        for number, more in list(other.counts.items()):
            left = counts.get(number, 0) - often * more
            if left:
                counts[number] = left
            else:
                del counts[number]
        self.shrink()

    def shrink(self):
        """Divide the line by what all its numbers have in common."""
        common = gcd(self.below, self.right, self.nudge)
        for often in self.counts.values():
            if common == 1:
                return
            common = gcd(common, often)
        if common == 1:
            return
        self.below = self.below // common
        self.right = self.right // common
        self.nudge = self.nudge // common
        self.counts = {number: often // common for number, often in self.counts.items()}


class Tableau:
    """The lines of the bounds, and the line of the sum that is to be the greatest."""

    def __init__(self, bounds, rows):
        self.bounds = len(bounds)
        self.lines = []
        for number, bound in enumerate(bounds):
            # Any unlike numbers above 0 will do, as long as sums of them are seldom level.
            self.lines.append(Line(number, bound, (number + 1) * 7919 % 10007 + 1))
        self.goal = Line(-1, 0, 0)
        for at, (pairs, least) in enumerate(rows):
            for number, often in pairs:
                self.lines[number].counts[self.bounds + at] = often
            if least:
                self.goal.counts[self.bounds + at] = -least

    def entering(self, careful):
        """Return a variable that makes the sum greater, None if there is none."""
        able = [(often, number) for number, often in self.goal.counts.items() if often < 0]
        if not able:
            return None
        # The first one always: with it no way of changes leads round in a ring.
        return min([number for _, number in able]) if careful else min(able)[1]

    def leaving(self, enters):
        """Return the line whose variable is the first to come to 0, None if none does."""
        best = None
        for line in self.lines:
            often = line.counts.get(enters, 0)
            if often > 0 and (best is None or is_sooner(line, best, enters)):
                best = line
        return best

    def change(self, enters, line):
        """Let a variable enter for that of a line."""
        line.turn(enters)
        for other in self.lines:
            if enters in other.counts:
                other.rid_of(line)
        self.goal.rid_of(line)

    def solve(self):
        """Change variables until the sum is the greatest.

        Return None then, or the variable by which it grows without end.
        """
        waited = 0
        while True:
            enters = self.entering(waited > PATIENCE)
            if enters is None:
                return None
            line = self.leaving(enters)
            if line is None:
                return enters
            waited = 0 if line.right or line.nudge else waited + 1
            self.change(enters, line)


def is_sooner(line, other, enters):
    """Tell whether the variable of a line comes to 0 ahead of that of another one."""
    one, more = line.counts[enters], other.counts[enters]
    for left, right in ((line.right, other.right), (line.nudge, other.nudge)):
        if left * more != right * one:
            return left * more < right * one
    return line.own < other.own


def amounts_of(tableau):
    """Return the dict of the amounts by variables that make the sum the greatest."""
    return {line.own: fraction(line.right, line.below) for line in tableau.lines}


def endless_amounts(tableau, endless):
    """Return the dict of the amounts by variables that make the sum grow without end."""
    amounts = {endless: (1, 1)}
    for line in tableau.lines:
        if endless in line.counts:
            amounts[line.own] = fraction(-line.counts[endless], line.below)
    return amounts


def bound_prices(tableau):
    """Return the list of the prices of the bounds, by which all rows hold."""
    goal = tableau.goal
    return [fraction(goal.counts.get(number, 0), goal.below) for number in range(tableau.bounds)]
