"""Tariffs: the unknowns of a program, told by their numbers.

A table of a choice kind is a tuple (first, kind): its rates are the unknowns from the number
`first` on, one for each constructor that is reached from the kind, in their order.
"""

from cellbills.kinds import reached_in
from cellbills.steps import rows_of
from cellbills.tables import table_of


class Signature:
    """The tables and the numbers of a calls kind or of a function."""

    def __init__(self, tariff, kinds, answer):
        self.arguments = [tariff.new_table(kind) for kind in kinds]
        self.answer = tariff.new_table(answer)
        self.wants = tariff.new_numbers(1)
        self.leaves = tariff.new_numbers(1)
        self.fault = tariff.new_numbers(1)


class Tariff:
    """The unknowns of a program: signatures by names, and tables of makes by rows."""

    def __init__(self, program):
        self.table = table_of(program)
        choices = self.table.choices
        self.reach = {kind: reached_in(choices, kind) for kind in choices}
        self.slots = {}
        for kind, makers in self.reach.items():
            self.slots[kind] = {maker: slot for slot, maker in enumerate(makers)}
        self.total = 0
        self.calls = {}
        for kind, (wanted, answer) in self.table.calls.items():
            self.calls[kind] = Signature(self, wanted, answer)
        self.functions = {}
        for name, (kinds, answer) in self.table.heads.items():
            self.functions[name] = Signature(self, kinds, answer)
        # Those of signatures stand ahead of those of makes.
        self.priced = self.total
        self.makes = [self.tables_of_makes(rows_of(function[3])) for function in program[2]]

    def new_numbers(self, many):
        """Return the first one of so many new unknowns."""
        self.total += many
        return self.total - many

    def new_table(self, kind):
        """Return a new table of a kind, None if it is no choice kind."""
        if kind not in self.reach:
            return None
        return self.new_numbers(len(self.reach[kind])), kind

    def tables_of_makes(self, rows):
        """Return a dict of new tables for the makes of a body, by the numbers of their rows."""
        makers = self.table.makers
        return {at: self.new_table(makers[row[2]][0])
                for at, row in enumerate(rows) if row[0] == "make"}

    def rate(self, table, maker):
        """Return the unknown that is the rate of a table for a constructor."""
        return table[0] + self.slots[table[1]][maker]

    def rates(self, table, kind):
        """Return the rates of a table for the constructors that are reached from a kind."""
        first, own = table
        if own == kind:
            return range_list(first, len(self.reach[kind]))
        slots = self.slots[own]
        return [first + slots[maker] for maker in self.reach[kind]]


def range_list(first, many):
    """Return the list of so many whole numbers, one behind the other."""
    return list(range(first, first + many))


def weight(names):
    """Return what a constructor or a kept function weighs that has these parts."""
    return 1 if names else 0
