"""Functions made ready for being read step by step."""

from cellbills.names import cost_of_keeping, kept_by_rows
from cellbills.steps import links_of, rows_of


class Plan:
    """A function: the names of its parameters, its rows, and what they keep and lead to."""

    def __init__(self, function):
        _, parameters, _, body = function
        self.parameters = [name for name, _ in parameters]
        self.rows = rows_of(body)
        self.links = links_of(self.rows)
        self.kept = kept_by_rows(self.rows)
        pairs = list(zip(self.rows, self.kept))
        self.costs = [cost_of_keeping(row[0], len(kept)) for row, kept in pairs]
