"""Bills and refusals judged, and what a bill tells of a function and its arguments."""

from cellbills.checker import ask_program, function_number
from cellbills.errors import InvalidBill
from cellbills.funds import funds_of
from cellbills.ratios import are_amounts, is_at_least, least_whole, sum_of
from cellbills.reading import ask_arguments
from cellbills.rules import inequalities_of
from cellbills.tariffs import Tariff


def sum_by(counts, amounts):
    """Return the sum of the amounts of unknowns, each so often."""
    return sum_of([(often, amounts[number]) for number, often in counts])


def holds_all(bill, rows):
    """Tell whether inequalities hold with a bill."""
    return all([is_at_least(sum_by(counts, bill), least) for _, counts, least in rows])


def is_bill_of(program, value):
    """Tell whether a value is a bill of what is known to be a program."""
    if not are_amounts(value, Tariff(program).total):
        return False
    return holds_all(value, inequalities_of(program))


def summed_counts(rows, amounts):
    """Return a dict of how often each unknown stands in a sum of inequalities, each so often."""
    pairs = {}
    for (_, counts, _), amount in zip(rows, amounts):
        # Those of which there is none are many, and add nothing.
        if amount[0] == 0:
            continue
        for number, often in counts:
            pairs.setdefault(number, []).append((often, amount))
    return {number: sum_of(own) for number, own in pairs.items()}


def summed_least(rows, amounts):
    """Return the least of a sum of inequalities, each so often."""
    return sum_of([(least, amount) for (_, _, least), amount in zip(rows, amounts)])


def sums_within(rows, amounts, counts):
    """Tell whether in a sum of inequalities no unknown stands more often than a dict tells."""
    sums = summed_counts(rows, amounts)
    return all([above <= counts.get(number, 0) * below for number, (above, below) in sums.items()])


def is_refusal_of(program, value):
    """Tell whether a value is a refusal of what is known to be a program."""
    rows = inequalities_of(program)
    if not are_amounts(value, len(rows)):
        return False
    return summed_least(rows, value)[0] > 0 and sums_within(rows, value, {})


def is_bill(program, value):
    """Tell whether a value is a bill of a program."""
    ask_program(program)
    return is_bill_of(program, value)


def is_refusal(program, value):
    """Tell whether a value is a refusal of a program."""
    ask_program(program)
    return is_refusal_of(program, value)


def ask_bill(program, bill):
    """Raise the error for the first one that is wrong of a program and its bill."""
    ask_program(program)
    if not is_bill_of(program, bill):
        raise InvalidBill(bill)


def told_table(tariff, table, bill):
    """Return the list of the constructors of a table with their rates, or None."""
    if table is None:
        return None
    first, kind = table
    return [(maker, bill[first + slot]) for slot, maker in enumerate(tariff.reach[kind])]


def signature(program, bill, name):
    """Return what a bill tells of the signature of a function."""
    ask_bill(program, bill)
    function_number(program, name)
    tariff = Tariff(program)
    own = tariff.functions[name]
    arguments = [told_table(tariff, table, bill) for table in own.arguments]
    answer = told_table(tariff, own.answer, bill)
    return arguments, answer, bill[own.wants], bill[own.leaves], bill[own.fault]


def bill_of(program, bill, name, values):
    """Return how many cells a bill tells for a function and its arguments."""
    ask_bill(program, bill)
    function_number(program, name)
    ask_arguments(program, name, values)
    counts = funds_of(Tariff(program), name, values)
    return least_whole(sum_by(list(counts.items()), bill))


def fund_counts(program, name, values):
    """Return for each unknown how often it stands in the sum that a bill tells."""
    ask_program(program)
    function_number(program, name)
    ask_arguments(program, name, values)
    tariff = Tariff(program)
    counts = funds_of(tariff, name, values)
    return [counts.get(number, 0) for number in range(tariff.total)]
