"""Readings as papers: the states between the steps, each told by the one ahead."""

from cellbills.checker import ask_program, is_step_place
from cellbills.errors import InvalidPaper
from cellbills.names import KEEPING
from cellbills.numbers import is_count
from cellbills.plans import free_at, kinds_in, place_at
from cellbills.reading import Reading, ask_hand, ask_reading, ask_steps, begun, read_step
from cellbills.steps import row_at
from cellbills.tables import bound_kind, table_of
from cellbills.values import are_same, is_of_kind

MOST_STEPS_TRACED = 400


def bound_pairs(names, bound):
    """Return the list of the names, each with the thing to which it is bound."""
    return [(name, bound[name]) for name in names]


def state_of(reading):
    """Return the state in which a reading stands."""
    frames = [(place_at(plan, at), bound_pairs(plan.kept[at], bound))
              for plan, at, bound in reading.frames]
    names = bound_pairs(free_at(reading.plan, reading.number), reading.bound)
    return place_at(reading.plan, reading.number), names, frames, reading.hand


def are_pairs(value, names, kinds, table):
    """Tell whether a value is a list of just these names, each with a thing of its kind."""
    if not isinstance(value, list) or len(value) != len(names):
        return False
    for pair, name in zip(value, names):
        if not isinstance(pair, tuple) or len(pair) != 2 or pair[0] != name:
            return False
        if not is_of_kind(table, kinds[name], pair[1]):
            return False
    return True


def stand_at(reading, program, place):
    """Let a reading stand at the step at a place; return whether it is the place of one."""
    if not is_step_place(place, program):
        return False
    plan = reading.plan_of(place[1])
    at = row_at(plan.links, place)
    if at is None:
        return False
    reading.plan, reading.number = plan, at
    return True


def lay_frame(reading, program, table, value, awaited):
    """Lay a frame that a value tells; return the kind it waits for, None if it tells none.

    The function of its place has to have the kind of answer that is awaited, if that is told.
    """
    if not isinstance(value, tuple) or len(value) != 2:
        return None
    if not stand_at(reading, program, value[0]):
        return None
    plan, at = reading.plan, reading.number
    row, kinds = plan.rows[at], kinds_in(plan, table)
    if row[0] not in KEEPING or awaited not in (None, plan.answer):
        return None
    if not are_pairs(value[1], plan.kept[at], kinds, table):
        return None
    reading.frames.append((plan, at, {name: thing for name, thing in value[1]}))
    return bound_kind(table, row, kinds)


def reading_at(program, value):
    """Return the reading that stands in a state of a program, or None if a value is none."""
    if not isinstance(value, tuple) or len(value) != 4:
        return None
    place, names, frames, hand = value
    if not isinstance(frames, list) or not is_count(hand):
        return None
    reading, table = Reading(program, hand), table_of(program)
    awaited = None
    for frame in frames:
        awaited = lay_frame(reading, program, table, frame, awaited)
        if awaited is None:
            return None
    if not stand_at(reading, program, place):
        return None
    plan = reading.plan
    if awaited not in (None, plan.answer):
        return None
    if not are_pairs(names, free_at(plan, reading.number), kinds_in(plan, table), table):
        return None
    reading.bound = {name: thing for name, thing in names}
    return reading


def read_to_state(reading):
    """Read a step; return the state behind it, or the outcome, and whether it is an outcome."""
    outcome = read_step(reading)
    if outcome is not None:
        return outcome, True
    return state_of(reading), False


def first_state(program, name, arguments, hand):
    """Return the state in which a reading begins."""
    ask_reading(program, name, arguments)
    ask_hand(hand)
    return state_of(begun(program, name, arguments, hand))


def next_state(program, state):
    """Return the state behind a state, or the outcome if the reading ends with its step."""
    ask_program(program)
    reading = reading_at(program, state)
    if reading is None:
        raise InvalidPaper(state)
    return read_to_state(reading)[0]


def is_state(program, value):
    """Tell whether a value is a state of a program."""
    ask_program(program)
    return reading_at(program, value) is not None


def trace(program, name, arguments, hand, steps):
    """Return the list of the states of a reading, up to an outcome."""
    ask_reading(program, name, arguments)
    ask_hand(hand)
    ask_steps(steps, MOST_STEPS_TRACED)
    reading = begun(program, name, arguments, hand)
    found = [state_of(reading)]
    for _ in range(steps):
        told, ended = read_to_state(reading)
        found.append(told)
        if ended:
            break
    return found


def is_trace(program, value):
    """Tell whether a value is a list that begins with a state and goes on as reading does."""
    ask_program(program)
    if not isinstance(value, list) or not value:
        return False
    reading = reading_at(program, value[0])
    if reading is None:
        return False
    ended = False
    for item in value[1:]:
        if ended:
            return False
        told, ended = read_to_state(reading)
        if not are_same(item, told):
            return False
    return True
