"""Names: which are free in a step, kept by it and bound at it, and what a function reaches."""

from cellbills.bodies import MOST_STEPS
from cellbills.checker import ask_program, function_number, steps_to
from cellbills.errors import InvalidRows
from cellbills.steps import bound_names, called_function, ends_of
from cellbills.steps import formed_rows, row_of, rows_of, used_names
from cellbills.tables import bound_kinds, is_owned, table_of

KEEPING = ("call", "use", "try")


def ask_rows(step):
    """Return the rows of a step, or raise the error if some form is wrong."""
    rows = formed_rows(step, MOST_STEPS)
    if rows is None:
        raise InvalidRows(step)
    return rows


def free_in(rows):
    """Return a dict of the names that some row uses and none binds."""
    bound = {}
    for row in rows:
        for names in bound_names(row):
            for name in names:
                bound[name] = True
    return {name: True for row in rows for name in used_names(row) if name not in bound}


def free_names(step):
    """Return the names that a step or one behind it uses and none of them binds, in order."""
    return sorted(free_in(ask_rows(step)))


def kept_names(step):
    """Return the names that a call, a use or a try keeps meanwhile, in order."""
    ask_rows(step)
    if step[0] not in KEEPING:
        return []
    kept = {}
    for end, names in zip(ends_of(step), bound_names(row_of(step))):
        for name in free_in(rows_of(end)):
            if name not in names:
                kept[name] = True
    return sorted(kept)


def cost_of_keeping(head, many):
    """Return how many cells a step takes that keeps so many names, by its first string."""
    if head == "try":
        return (many + 4) // 3
    return max(1, (many + 2) // 3) if head in KEEPING else 0


def frame_cost(step):
    """Return how many cells it takes to keep the names that a step keeps."""
    many = len(kept_names(step))
    return cost_of_keeping(step[0], many)


def free_behind(row, waiting):
    """Take the names free in the ends of a row from a stack; return those free behind it."""
    used = {}
    for names in bound_names(row):
        behind = waiting.pop()
        for name in names:
            behind.pop(name, None)
        # The greater one takes the other one in, or long bodies cost their square.
        if len(behind) > len(used):
            used, behind = behind, used
        used.update(behind)
    return used


def kept_by_rows(rows):
    """Return for each row of a right body the names that it keeps, in order."""
    kept, waiting = [], []
    for row in rows[::-1]:
        used = free_behind(row, waiting)
        kept.append(sorted(used) if row[0] in KEEPING else [])
        used.update({name: True for name in used_names(row)})
        waiting.append(used)
    return kept[::-1]


def free_by_rows(rows):
    """Return for each row of a right body the names that are free in its step, in order."""
    free, waiting = [], []
    for row in rows[::-1]:
        used = free_behind(row, waiting)
        used.update({name: True for name in used_names(row)})
        free.append(sorted(used))
        waiting.append(used)
    return free[::-1]


def pass_step(table, row, end, scope):
    """Change the kinds of the names bound at a step to those bound at an end of it."""
    names, kinds = bound_names(row)[end], bound_kinds(table, row, scope)[end]
    for name in used_names(row):
        if is_owned(scope[name]):
            del scope[name]
    for name, kind in zip(names, kinds):
        scope[name] = kind


def names_at(program, place):
    """Return (name, kind) of the names bound at a step and not used up, as they are bound."""
    ask_program(program)
    steps = steps_to(program, place)
    table = table_of(program)
    scope = {name: kind for name, kind in program[2][place[1]][1]}
    for step, end in zip(steps, place[3:]):
        pass_step(table, row_of(step), end, scope)
    return list(scope.items())


def functions_in(body):
    """Return the names of the functions that a body calls, goes to, keeps or tries."""
    found = [called_function(row) for row in rows_of(body)]
    return [name for name in found if name is not None]


def reachable(program, name):
    """Return the names of the functions that a function comes to, in order."""
    ask_program(program)
    function_number(program, name)
    bodies = {function[0]: function[3] for function in program[2]}
    found, waiting = {name: True}, [name]
    while waiting:
        first = waiting.pop()
        for other in functions_in(bodies[first]):
            if other not in found:
                found[other] = True
                waiting.append(other)
    return [function[0] for function in program[2] if function[0] in found]
