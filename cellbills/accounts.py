"""Accounts: what the steps of a function ask of the unknowns, and what they make of the hand.

What a step asks is a list of demands, each one of these tuples:
- ("handed", kind, table, wanted): the rates of a table for what is reached from a kind are to
  be at least those of the wanted table;
- ("plain", pairs, least): a sum of unknowns is to be at least a number;
- ("asked", pairs, least): the hand and a sum of unknowns are to be at least a number.
Pairs are a list of tuples (unknown, often). A change of the hand is a tuple (pairs, whole).
"""

from cellbills.plans import kinds_in
from cellbills.steps import argument_names
from cellbills.tariffs import weight

CALLING = ("call", "use", "try", "go", "usego")
SAME = ((), 0)


class Account:
    """A function with the tables of its names, for which a tariff holds the unknowns."""

    def __init__(self, tariff, plan):
        self.tariff = tariff
        self.plan = plan
        self.kinds = kinds_in(plan, tariff.table)
        self.own = tariff.functions[plan.name]
        self.makes = tariff.makes[plan.number]
        self.tables = {}
        self.note(plan.parameters, self.own.arguments)
        for at, row in enumerate(plan.rows):
            self.note_bound(at, row)

    def note(self, names, tables):
        """Note the tables of names, but for those that have none."""
        for name, table in zip(names, tables):
            if table is not None:
                self.tables[name] = table

    def note_bound(self, at, row):
        """Note the tables of the names that a step binds."""
        if row[0] == "make":
            self.tables[row[1]] = self.makes[at]
        elif row[0] == "take":
            own = self.tables[row[1]]
            for _, names in row[2]:
                self.note(names, [own if self.has_table(name) else None for name in names])
        elif row[0] in ("call", "use", "try"):
            self.note(row[1:2], [self.called(row).answer])

    def has_table(self, name):
        """Tell whether a name is of a choice kind."""
        return self.kinds[name] in self.tariff.reach

    def called(self, row):
        """Return the signature by which a step calls or goes on."""
        head = row[0]
        if head in ("use", "usego"):
            return self.tariff.calls[self.kinds[row[2] if head == "use" else row[1]]]
        return self.tariff.functions[row[1] if head == "go" else row[2]]

    def handings(self, names, tables):
        """Return the demands by which names are handed to where tables are wanted."""
        return [("handed", self.kinds[name], self.tables[name], table)
                for name, table in zip(names, tables) if self.has_table(name)]


def table_handings(tables, wanted):
    """Return the demands by which tables of kinds are handed to where others are wanted."""
    return [("handed", table[1], table, other)
            for table, other in zip(tables, wanted) if table is not None]


def make_demands(account, at):
    """Return what a make asks."""
    _, _, maker, names = account.plan.rows[at]
    table = account.makes[at]
    rate = account.tariff.rate(table, maker)
    return account.handings(names, [table] * len(names)) + [("asked", [(rate, -1)], weight(names))]


def call_demands(account, at):
    """Return what a call or a use asks."""
    signature = account.called(account.plan.rows[at])
    return try_demands(account, at) + [fault_demand(account, signature)]


def try_demands(account, at):
    """Return what a try asks: what all steps that call ask, but for faults."""
    row = account.plan.rows[at]
    signature = account.called(row)
    handed = account.handings(argument_names(row), signature.arguments)
    return handed + [("asked", [(signature.wants, -1)], account.plan.costs[at])]


def fault_demand(account, signature):
    """Return the demand that at a fault enough is left."""
    pairs = [(signature.wants, -1), (signature.fault, 1), (account.own.fault, -1)]
    return "asked", pairs, 0


def go_demands(account, at):
    """Return what a go or a usego asks."""
    signature, own = account.called(account.plan.rows[at]), account.own
    answer = table_handings([signature.answer], [own.answer])
    pairs = [(signature.wants, -1), (signature.leaves, 1), (own.leaves, -1)]
    ends = [("asked", pairs, 0), fault_demand(account, signature)]
    return try_demands(account, at) + answer + ends


def keep_demands(account, at):
    """Return what a keep asks."""
    _, _, kind, function, names = account.plan.rows[at]
    wanted, kept = account.tariff.calls[kind], account.tariff.functions[function]
    further = table_handings(wanted.arguments, kept.arguments[len(names):])
    answer = table_handings([kept.answer], [wanted.answer])
    pairs = [(wanted.wants, kept.wants), (kept.leaves, wanted.leaves), (kept.fault, wanted.fault)]
    numbers = [("plain", [(more, 1), (less, -1)], 0) for more, less in pairs]
    handed = account.handings(names, kept.arguments)
    return handed + further + answer + numbers + [("asked", [], weight(names))]


def raise_demands(account, _):
    """Return what a raise asks."""
    return [("asked", [(account.own.fault, -1)], 0)]


def end_demands(account, at):
    """Return what an end asks."""
    handed = account.handings(account.plan.rows[at][1:], [account.own.answer])
    return handed + [("asked", [(account.own.leaves, -1)], 0)]


DEMANDS = {
    "make": make_demands,
    "call": call_demands,
    "use": call_demands,
    "go": go_demands,
    "usego": go_demands,
    "try": try_demands,
    "keep": keep_demands,
    "raise": raise_demands,
    "end": end_demands,
}


def demands_at(account, at):
    """Return the list of what the step of a row asks, in order."""
    head = account.plan.rows[at][0]
    if head not in DEMANDS:
        return []
    demands = DEMANDS[head]
    return demands(account, at)


def changes_at(account, at):
    """Return for each end of the step of a row how the hand changes on the way to it."""
    row = account.plan.rows[at]
    head, tariff = row[0], account.tariff
    if head == "make":
        return [([(tariff.rate(account.makes[at], row[2]), -1)], -weight(row[3]))]
    if head == "keep":
        return [([], -weight(row[4]))]
    if head == "take":
        table = account.tables[row[1]]
        return [([(tariff.rate(table, tag), 1)], weight(names)) for tag, names in row[2]]
    if head in ("call", "use", "try"):
        signature = account.called(row)
        wants = (signature.wants, -1)
        value, fault = [wants, (signature.leaves, 1)], [wants, (signature.fault, 1)]
        return [(value, 0), (fault, 0)] if head == "try" else [(value, 0)]
    return [SAME] * len(account.plan.links[at])
