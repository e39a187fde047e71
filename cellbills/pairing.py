"""Pairings: which things are made into the very cell that a take ahead of them left."""

from cellbills.errors import InvalidPaper
from cellbills.live import asked_rows
from cellbills.names import KEEPING
from cellbills.numbers import is_count
from cellbills.steps import links_of


class Ahead:
    """The rows of a body, and of each one the row ahead of it and the end that leads to it."""

    def __init__(self, rows):
        self.rows = rows
        self.links = links_of(rows)
        self.rows_ahead = [None] * len(rows)
        for at, ends in enumerate(self.links):
            for number, end in enumerate(ends):
                self.rows_ahead[end] = (at, number)

    def is_made(self, at):
        """Tell whether the step of a row makes a thing that lies in a cell."""
        row = self.rows[at]
        return row[0] in ("make", "keep") and len(row[-1]) > 0

    def leaves_cell(self, at, end):
        """Tell whether the step of a row takes a thing apart that lay in a cell, by its end."""
        row = self.rows[at]
        return row[0] == "take" and len(row[2][end][1]) > 0

    def nearest(self, made, partners):
        """Return the nearest take whose cell a thing can be made into, or None.

        Partners tell the takes of the things that are made ahead.
        """
        used = {}
        ahead = self.rows_ahead[made]
        while ahead is not None:
            at, end = ahead
            if self.rows[at][0] in KEEPING:
                return None
            if self.is_made(at):
                if at not in partners:
                    return None
                used[partners[at]] = True
            if self.leaves_cell(at, end) and at not in used:
                return at
            ahead = self.rows_ahead[at]
        return None

    def is_right(self, made, taken, partners):
        """Tell whether a thing can be made into the cell of a take, with these partners."""
        ahead = self.rows_ahead[made]
        while ahead is not None:
            at, end = ahead
            if at == taken:
                return self.leaves_cell(at, end)
            if self.rows[at][0] in KEEPING:
                return False
            if self.is_made(at) and partners.get(at, taken) == taken:
                return False
            ahead = self.rows_ahead[at]
        return False

    def pairs_on_ways(self, partners):
        """Return for each way through the body, in order, how many pairs are on it."""
        sums, found = [0] * len(self.rows), []
        for at, ends in enumerate(self.links):
            if at in partners:
                sums[at] += 1
            for end in ends:
                sums[end] = sums[at]
            if not ends:
                found.append(sums[at])
        return found


def greedy_partners(look):
    """Return the dict of the takes of the made things, front first the nearest one for each."""
    partners = {}
    for at in range(len(look.rows)):
        if look.is_made(at):
            taken = look.nearest(at, partners)
            if taken is not None:
                partners[at] = taken
    return partners


def is_pair(value, look):
    """Tell whether a value is a tuple of the numbers of two steps, the first one a made one."""
    if not isinstance(value, tuple) or len(value) != 2:
        return False
    if not is_count(value[0]) or not is_count(value[1]):
        return False
    return value[0] < len(look.rows) and look.is_made(value[0])


def told_partners(look, value):
    """Return the dict of the pairs that a value tells, None if it is no right pairing."""
    if not isinstance(value, list) or not all([is_pair(pair, look) for pair in value]):
        return None
    partners = dict(value)
    if len(partners) != len(value) or value != sorted(value):
        return None
    if not all([look.is_right(made, taken, partners) for made, taken in value]):
        return None
    return partners


def pairing(program, name):
    """Return the pairing in which, front first, each thing made has the nearest take."""
    return list(greedy_partners(Ahead(asked_rows(program, name))).items())


def is_pairing(program, name, value):
    """Tell whether a value is a right pairing of a function."""
    return told_partners(Ahead(asked_rows(program, name)), value) is not None


def asked_partners(look, pairs):
    """Return the dict of the pairs of a right pairing, or raise the error."""
    partners = told_partners(look, pairs)
    if partners is None:
        raise InvalidPaper(pairs)
    return partners


def is_full(program, name, pairs):
    """Tell whether a right pairing has as many pairs on every way as any has on it."""
    look = Ahead(asked_rows(program, name))
    own = look.pairs_on_ways(asked_partners(look, pairs))
    return own == look.pairs_on_ways(greedy_partners(look))


def saved(program, name, pairs):
    """Return the least and the greatest number of pairs on a way through the body."""
    look = Ahead(asked_rows(program, name))
    many = look.pairs_on_ways(asked_partners(look, pairs))
    return min(many), max(many)
