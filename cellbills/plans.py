"""Functions made ready for being read step by step."""

from cellbills.names import cost_of_keeping, free_by_rows, kept_by_rows
from cellbills.steps import links_of, places_of_rows, rows_of
from cellbills.tables import kinds_of_names


class Plan:
    """A function: the names of its parameters, its rows, and what they keep and lead to."""

    def __init__(self, number, function):
        name, parameters, answer, body = function
        self.name = name
        self.number = number
        self.parameters = [own for own, _ in parameters]
        self.parameter_kinds = [kind for _, kind in parameters]
        self.answer = answer
        self.rows = rows_of(body)
        self.links = links_of(self.rows)
        self.kept = kept_by_rows(self.rows)
        pairs = list(zip(self.rows, self.kept))
        self.costs = [cost_of_keeping(row[0], len(kept)) for row, kept in pairs]
        # These are made when they are first asked for: a plain reading needs none of them.
        self.free = None
        self.places = None
        self.kinds = None


def free_at(plan, at):
    """Return the names that are free in the step of a row, in order."""
    if plan.free is None:
        plan.free = free_by_rows(plan.rows)
    return plan.free[at]


def place_at(plan, at):
    """Return the place of the step of a row."""
    if plan.places is None:
        plan.places = places_of_rows(plan.links, (1, plan.number, 0))
    return plan.places[at]


def kinds_in(plan, table):
    """Return the dict of the kinds of all names of a function."""
    if plan.kinds is None:
        parameters = list(zip(plan.parameters, plan.parameter_kinds))
        plan.kinds = kinds_of_names(table, parameters, plan.rows)
    return plan.kinds
