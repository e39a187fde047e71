"""Where a machine stands: its step, the names that are alive there, and its frames."""

from cellbills.acts import is_hollow
from cellbills.cells import thing_in
from cellbills.charts import Charts, lines_by_names
from cellbills.checker import ask_program, function_number, steps_to
from cellbills.codegen import paired_coder
from cellbills.errors import InvalidRows
from cellbills.leaps import cells_for
from cellbills.machine import MOST_CELLS, Machine
from cellbills.steps import links_of, row_at, rows_of


def first_rows(program, name):
    """Return the numbers of the first rows of the steps of a function."""
    ask_program(program)
    return paired_coder(program[2][function_number(program, name)]).firsts


def ask_standing(program, machine):
    """Raise the error for the first one that is wrong of a program and a machine of it."""
    ask_program(program)
    if not isinstance(machine, Machine) or not machine.book.is_of(program):
        raise InvalidRows(machine)


def step_of_machine(charts, machine):
    """Return the number of the step at which a machine stands, None if it stands at none."""
    if machine.ended is not None:
        return None
    return charts.of(machine.name).steps.get(machine.at)


def told_names(machine, chart, names, contents):
    """Return the list of the names, each with the thing that is held for its register."""
    heads = machine.book.heads
    return [(name, thing_in(machine.store, heads, contents[chart.slot_of(name)])) for name in names]


def frames_within(machine):
    """Return the frames and handlers of a machine, the last one first.

    Each is a tuple (function, row, contents by registers) of the row that made it.
    """
    frame, handler = machine.frame, machine.handler
    found = []
    while frame or handler:
        number = frame if frame else handler
        _, name, at = machine.store.marks[number]
        row = machine.book.rows[name][at]
        contents, link = machine.store.laid_at(number, cells_for(row))
        if frame:
            frame = link
        else:
            frame, handler = [0 if own is None else own[1] for own in contents[:2]]
        kept = contents[len(contents) - len(row[-1]):]
        found.append((name, at, dict(zip(row[-1], kept))))
    return found


def told_frame(charts, machine, frame):
    """Return the place and the names of a frame or handler."""
    name, row, contents = frame
    chart = charts.of(name)
    at = chart.step_with(row)
    return chart.places[at], told_names(machine, chart, chart.kept[at], contents)


def where(program, machine):
    """Return the state in which a machine stands, None if it stands at no step."""
    ask_standing(program, machine)
    charts = Charts(program)
    at = step_of_machine(charts, machine)
    if at is None:
        return None
    chart = charts.of(machine.name)
    names = told_names(machine, chart, chart.alive[at], machine.slots)
    frames = [told_frame(charts, machine, frame) for frame in frames_within(machine)]
    hollow = len([content for content in machine.slots if is_hollow(content)])
    return chart.places[at], names, frames[::-1], machine.store.count_free(MOST_CELLS) + hollow


def to_next_step(program, machine):
    """Let a machine run until it stands at a step or has ended; return how many rows it did."""
    ask_standing(program, machine)
    charts, before = Charts(program), machine.done
    while machine.step() is None:
        if step_of_machine(charts, machine) is not None:
            break
    return machine.done - before


def line_of(program, place):
    """Return the number of the line of a written program with which a step begins."""
    ask_program(program)
    steps_to(program, place)
    name, _, _, body = program[2][place[1]]
    return lines_by_names(program)[name][row_at(links_of(rows_of(body)), place)]


def standing(program, machine):
    """Return the functions and lines of the steps of a machine's frames and of its own step."""
    ask_standing(program, machine)
    charts = Charts(program)
    at = step_of_machine(charts, machine)
    if at is None:
        return None
    lines = lines_by_names(program)
    found = [(name, lines[name][charts.of(name).step_with(row)])
             for name, row, _ in frames_within(machine)[::-1]]
    return found + [(machine.name, lines[machine.name][at])]
