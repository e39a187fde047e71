"""Faces: what a unit asks of the prices, and whether one may be exchanged for another."""

from cellbills.bills import Solution
from cellbills.demands import Question, asks_for, demands_of, demands_of_tuples, inner_or_sums
from cellbills.demands import let_row, summed_tuple
from cellbills.errors import InvalidList, Unlike
from cellbills.numbers import is_whole
from cellbills.projection import follows_from, projected, without_followers
from cellbills.ratios import are_amounts, fraction, is_at_least, least_whole, sum_of
from cellbills.units import ask_unit, ask_units, head_of, linked_of

MOST_TUPLES = 600


def prices(unit):
    """Return how many prices a unit has."""
    ask_unit(unit)
    return demands_of(unit).prices


def asked_demands(unit, row):
    """Return the demands of a unit that are asked for a row of prices, or raise the error."""
    ask_unit(unit)
    demands = demands_of(unit)
    if not are_amounts(row, demands.prices):
        raise InvalidList(row)
    return demands


def inner_numbers(unit, row):
    """Return inner numbers that go with a row of prices, None if the row isn't let."""
    return inner_or_sums(asked_demands(unit, row), row)[0]


def cut(unit, row):
    """Return what shows that a row of prices isn't let, None if it is."""
    demands = asked_demands(unit, row)
    sums = inner_or_sums(demands, row)[1]
    return None if sums is None else summed_tuple(demands, sums)


def are_numbers(value, many):
    """Tell whether a value is a list of so many whole numbers."""
    if not isinstance(value, list) or len(value) != many:
        return False
    return all([is_whole(number) for number in value])


def is_tuple(value):
    """Tell whether a value has the form of a tuple of a face; how many numbers is not asked."""
    if not isinstance(value, tuple) or len(value) != 2 or not isinstance(value[0], list):
        return False
    return are_numbers(value[0], len(value[0])) and is_whole(value[1])


def are_tuples(value):
    """Tell whether a value is a list of tuples that a face may be, with equally many numbers."""
    if not isinstance(value, list) or len(value) > MOST_TUPLES:
        return False
    if not all([is_tuple(told) for told in value]):
        return False
    return all([len(numbers) == len(value[0][0]) for numbers, _ in value])


def tuples_of(demands):
    """Return the tuples of a face for demands."""
    if let_row(demands) is None:
        return [([0] * demands.prices, 1)]
    found = without_followers(projected(demands))
    if len(found) > MOST_TUPLES:
        found = without_sums(found, demands.prices)
    return found


def without_sums(tuples, many):
    """Return tuples without those for which the others ask all together."""
    left = list(tuples)
    for told in tuples:
        others = [own for own in left if own != told]
        if asks_for(demands_of_tuples(others, many), told[0], told[1]):
            left = others
    return left


def face(unit):
    """Return a face of a unit."""
    ask_unit(unit)
    return tuples_of(demands_of(unit))


def is_asked(told, known, demands):
    """Tell whether a tuple follows from a known one, or is asked for by demands."""
    for own in known:
        if follows_from(told, own):
            return True
    return asks_for(demands, told[0], told[1])


def are_asked(tuples, known, demands):
    """Tell whether each of some tuples follows from a known one, or is asked for by demands."""
    for told in tuples:
        if told not in known and not is_asked(told, known, demands):
            return False
    return True


def is_face(unit, value):
    """Tell whether a value is a face of a unit."""
    ask_unit(unit)
    demands = demands_of(unit)
    if not are_tuples(value) or not all([len(own) == demands.prices for own, _ in value]):
        return False
    own, told = tuples_of(demands), demands_of_tuples(value, demands.prices)
    if let_row(demands) is None:
        return let_row(told) is None
    return are_asked(value, own, demands) and are_asked(own, value, told)


def keeps(face, row):
    """Tell whether a row of fractions keeps all tuples of a face."""
    if not are_tuples(face):
        raise InvalidList(face)
    if not isinstance(row, list) or not are_amounts(row, len(face[0][0]) if face else len(row)):
        raise InvalidList(row)
    return all([is_at_least(sum_of(list(zip(numbers, row))), least) for numbers, least in face])


def face_sums(unit, numbers, least):
    """Return how often each demand of a unit is taken to ask for a tuple, None if none do."""
    ask_unit(unit)
    demands = demands_of(unit)
    if not are_numbers(numbers, demands.prices):
        raise InvalidList(numbers)
    if not is_whole(least):
        raise InvalidList(least)
    return Question(demands, numbers, least).sums()


def faces_bill(units):
    """Return fractions that all units let and that go on to a bill of their program, or None."""
    ask_units(units)
    solution = Solution(linked_of(units), {})
    return None if solution.endless is not None else solution.bill()[:solution.priced]


def outside(unit):
    """Return all of a unit that others see."""
    return unit[1], unit[2], unit[3], [head_of(function) for function in unit[4]]


def row_against(demands, let, told):
    """Return a row of prices that demands let and that doesn't keep a tuple, None if there is none.

    Told is any row that they let, too.
    """
    numbers, least = told
    question = Question(demands, numbers, least)
    if question.sums() is not None:
        return None
    way, scale = question.against()
    if scale[0] > 0:
        return [fraction(above * scale[1], below * scale[0]) for above, below in way]
    # The way leads from each row that is let to others, and each time below the tuple by 1 more.
    start = least_whole(sum_of(list(zip(numbers, let))))
    times = max(1, start - least + 1)
    return [sum_of([(1, own), (times, more)]) for own, more in zip(let, way)]


def unlet(elder, newer):
    """Return a row of prices that one unit lets and a newer one doesn't, None if there is none."""
    ask_unit(elder)
    ask_unit(newer)
    if outside(elder) != outside(newer):
        raise Unlike(newer)
    demands = demands_of(elder)
    let = let_row(demands)
    if let is None:
        return None
    for told in tuples_of(demands_of(newer)):
        row = row_against(demands, let, told)
        if row is not None:
            return row
    return None
