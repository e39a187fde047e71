"""Readings as papers: the states between the steps, each told by the one ahead."""

from cellbills.checker import ask_program, is_step_place
from cellbills.errors import InvalidPaper
from cellbills.marks import Marking, is_just
from cellbills.names import KEEPING
from cellbills.numbers import is_count
from cellbills.plans import free_at, kinds_in, place_at
from cellbills.reading import Reading, ask_hand, ask_reading, ask_steps, begun, read_step
from cellbills.steps import row_at
from cellbills.tables import bound_kind, table_of
from cellbills.values import is_of_kind

MOST_STEPS_TRACED = 400


def told_pairs(reading, names, bound):
    """Return the list of the names, each with the thing to which it is bound."""
    return [(name, reading.told(bound[name])) for name in names]


def state_of(reading):
    """Return the state in which a reading stands."""
    frames = [(place_at(plan, at), told_pairs(reading, plan.kept[at], bound))
              for plan, at, bound in reading.frames]
    names = told_pairs(reading, free_at(reading.plan, reading.number), reading.bound)
    return place_at(reading.plan, reading.number), names, frames, reading.hand


def are_pairs(value, names, kinds, table):
    """Tell whether a value is a list of just these names, each with a thing of its kind."""
    if not isinstance(value, list) or len(value) != len(names):
        return False
    for pair, name in zip(value, names):
        if not isinstance(pair, tuple) or len(pair) != 2 or pair[0] != name:
            return False
        if not is_of_kind(table, kinds[name], pair[1]):
            return False
    return True


def noted_pairs(reading, pairs):
    """Return the dict of the things of a list of names with them, as a reading holds them."""
    return {name: reading.noted(thing) for name, thing in pairs}


def stand_at(reading, program, place):
    """Let a reading stand at the step at a place; return whether it is the place of one."""
    if not is_step_place(place, program):
        return False
    plan = reading.plan_of(place[1])
    at = row_at(plan.links, place)
    if at is None:
        return False
    reading.plan, reading.number = plan, at
    return True


def lay_frame(reading, program, table, value, awaited):
    """Lay a frame that a value tells; return the kind it waits for, None if it tells none.

    The function of its place has to have the kind of answer that is awaited, if that is told.
    """
    if not isinstance(value, tuple) or len(value) != 2:
        return None
    if not stand_at(reading, program, value[0]):
        return None
    plan, at = reading.plan, reading.number
    row, kinds = plan.rows[at], kinds_in(plan, table)
    if row[0] not in KEEPING or awaited not in (None, plan.answer):
        return None
    if not are_pairs(value[1], plan.kept[at], kinds, table):
        return None
    reading.frames.append((plan, at, noted_pairs(reading, value[1])))
    return bound_kind(table, row, kinds)


def stand_in(reading, program, value):
    """Let a new reading stand in a state of a program; return whether a value is one."""
    if not isinstance(value, tuple) or len(value) != 4:
        return False
    place, names, frames, hand = value
    if not isinstance(frames, list) or not is_count(hand):
        return False
    table, awaited = table_of(program), None
    for frame in frames:
        awaited = lay_frame(reading, program, table, frame, awaited)
        if awaited is None:
            return False
    if not stand_at(reading, program, place):
        return False
    plan = reading.plan
    if awaited not in (None, plan.answer):
        return False
    if not are_pairs(names, free_at(plan, reading.number), kinds_in(plan, table), table):
        return False
    reading.hand = hand
    reading.bound = noted_pairs(reading, names)
    return True


def read_to_state(reading):
    """Read a step; return the state behind it, or the outcome, and whether it is an outcome."""
    outcome = read_step(reading)
    if outcome is not None:
        return outcome, True
    return state_of(reading), False


def first_state(program, name, arguments, hand):
    """Return the state in which a reading begins."""
    ask_reading(program, name, arguments)
    ask_hand(hand)
    return state_of(begun(program, name, arguments, hand))


def next_state(program, state):
    """Return the state behind a state, or the outcome if the reading ends with its step."""
    ask_program(program)
    reading = Reading(program, 0)
    if not stand_in(reading, program, state):
        raise InvalidPaper(state)
    return read_to_state(reading)[0]


def is_state(program, value):
    """Tell whether a value is a state of a program."""
    ask_program(program)
    return stand_in(Reading(program, 0), program, value)


def trace(program, name, arguments, hand, steps):
    """Return the list of the states of a reading, up to an outcome."""
    ask_reading(program, name, arguments)
    ask_hand(hand)
    ask_steps(steps, MOST_STEPS_TRACED)
    reading = begun(program, name, arguments, hand)
    found = [state_of(reading)]
    for _ in range(steps):
        told, ended = read_to_state(reading)
        found.append(told)
        if ended:
            break
    return found


def are_just(pairs, names, bound):
    """Tell whether pairs that are equal to what names are bound to are just the same."""
    return all([is_just(pair[1], bound[name]) for pair, name in zip(pairs, names)])


def is_state_told(item, reading):
    """Tell whether an item is the very state in which a marking reading stands."""
    told = state_of(reading)
    if item != told:
        return False
    numbers = (told[0], [place for place, _ in told[2]], told[3])
    # Equal numbers that are written alike are no flags.
    if repr((item[0], [place for place, _ in item[2]], item[3])) != repr(numbers):
        return False
    for (_, pairs), (plan, at, bound) in zip(item[2], reading.frames):
        if not are_just(pairs, plan.kept[at], bound):
            return False
    return are_just(item[1], free_at(reading.plan, reading.number), reading.bound)


def is_outcome_told(item, reading, outcome):
    """Tell whether an item is the very outcome with which a marking reading ended."""
    if len(outcome) == 1:
        return item == outcome
    return item == (outcome[0], reading.told(outcome[1])) and is_just(item[1], outcome[1])


def is_trace(program, value):
    """Tell whether a value is a list that begins with a state and goes on as reading does."""
    ask_program(program)
    if not isinstance(value, list) or not value:
        return False
    reading, outcome = Marking(program, 0), None
    if not stand_in(reading, program, value[0]):
        return False
    for item in value[1:]:
        if outcome is not None:
            return False
        outcome = read_step(reading)
        if outcome is None:
            is_told = is_state_told(item, reading)
        else:
            is_told = is_outcome_told(item, reading, outcome)
        if not is_told:
            return False
    return True
