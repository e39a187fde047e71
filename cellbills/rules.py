"""The unknowns of a program, and the inequalities that its steps ask of them."""

from cellbills.accounts import Account, changes_at, demands_at
from cellbills.checker import ask_program
from cellbills.plans import Plan, place_at
from cellbills.steps import links_of, places_of_rows, rows_of
from cellbills.tariffs import Tariff


def table_unknowns(tariff, start, table):
    """Return the unknowns of a table, with what stands ahead of their constructors."""
    return [start + (maker,) for maker in tariff.reach[table[1]]]


def signature_unknowns(tariff, start, signature):
    """Return the unknowns of a signature, with what stands at the front of each."""
    found = []
    for number, table in enumerate(signature.arguments):
        if table is not None:
            found.extend(table_unknowns(tariff, start + ("argument", number), table))
    if signature.answer is not None:
        found.extend(table_unknowns(tariff, start + ("answer",), signature.answer))
    return found + [start + (word,) for word in ("wants", "leaves", "fault")]


def unknowns(program):
    """Return the list of the unknowns of a program."""
    ask_program(program)
    tariff = Tariff(program)
    found = []
    for kind, signature in tariff.calls.items():
        found.extend(signature_unknowns(tariff, ("calls", kind), signature))
    for name, signature in tariff.functions.items():
        found.extend(signature_unknowns(tariff, ("function", name), signature))
    for number, makes in enumerate(tariff.makes):
        places = places_of_rows(links_of(rows_of(program[2][number][3])), (1, number, 0))
        for at, table in makes.items():
            found.extend(table_unknowns(tariff, ("make", places[at]), table))
    return found


def add_pairs(counts, pairs):
    """Change how often unknowns stand in a sum by further pairs."""
    for number, often in pairs:
        total = counts.get(number, 0) + often
        if total:
            counts[number] = total
        else:
            counts.pop(number, None)


def counts_of(hand, pairs):
    """Return the counts of a sum that stands in a dict and of further pairs together."""
    counts = dict(hand)
    add_pairs(counts, pairs)
    return sorted(list(counts.items()))


def handed_counts(tariff, kind, table, wanted):
    """Return the lists of counts by which a table is handed to where another is wanted."""
    pairs = list(zip(tariff.rates(table, kind), tariff.rates(wanted, kind)))
    if table == wanted:
        return [[] for _ in pairs]
    if table < wanted:
        return [[(one, 1), (other, -1)] for one, other in pairs]
    return [[(other, -1), (one, 1)] for one, other in pairs]


def add_inequalities(found, account, at, hand, whole):
    """Add the inequalities of the step of a row, which begins with a hand, to a list."""
    place = place_at(account.plan, at)
    for demand in demands_at(account, at):
        if demand[0] == "handed":
            rows = handed_counts(account.tariff, demand[1], demand[2], demand[3])
            found.extend([(place, counts, 0) for counts in rows])
        elif demand[0] == "plain":
            found.append((place, counts_of({}, demand[1]), demand[2]))
        else:
            found.append((place, counts_of(hand, demand[1]), demand[2] - whole))


def function_inequalities(account):
    """Return the list of the inequalities of a function."""
    found = []
    waiting = [(0, {account.own.wants: 1}, 0)]
    while waiting:
        at, hand, whole = waiting.pop()
        add_inequalities(found, account, at, hand, whole)
        ends = list(zip(account.plan.links[at], changes_at(account, at)))
        for end, (pairs, more) in ends[::-1]:
            # Most steps have one end: there the hand itself goes on.
            behind = hand if len(ends) == 1 else dict(hand)
            add_pairs(behind, pairs)
            waiting.append((end, behind, whole + more))
    return found


def inequalities_of(program):
    """Return the list of the inequalities of what is known to be a program."""
    tariff = Tariff(program)
    found = []
    for number, function in enumerate(program[2]):
        found.extend(function_inequalities(Account(tariff, Plan(number, function))))
    return found


def inequalities(program):
    """Return the list of the inequalities of a program."""
    ask_program(program)
    return inequalities_of(program)
