"""Charts: where the steps of a function stand among its rows, and its homes; lines of steps."""

from cellbills.checker import function_number
from cellbills.codegen import paired_coder
from cellbills.names import free_by_rows
from cellbills.printer import body_lines
from cellbills.steps import places_of_rows


class Chart:
    """A function of a program, whose code is that of the listing."""

    def __init__(self, number, function):
        self.coder = paired_coder(function)
        self.firsts = self.coder.firsts
        layout = self.coder.layout
        self.steps = {first: at for at, first in enumerate(self.firsts)}
        self.places = places_of_rows(layout.links, (1, number, 0))
        self.alive = free_by_rows(layout.rows)
        self.kept = layout.kept

    def step_with(self, at):
        """Return the number of the step of which a row is one."""
        while at not in self.steps:
            at -= 1
        return self.steps[at]

    def slot_of(self, name):
        """Return the register of a name."""
        return self.coder.slot_of(name)


class Charts:
    """The charts of the functions of a program, made when they are first asked for."""

    def __init__(self, program):
        self.source = program
        self.charts = {}

    def of(self, name):
        """Return the chart of the function with a name."""
        if name not in self.charts:
            number = function_number(self.source, name)
            self.charts[name] = Chart(number, self.source[2][number])
        return self.charts[name]


def lines_by_names(program):
    """Return a dict with the list of the lines of the steps of each function of a program."""
    ahead, found = len(program[1]), {}
    for name, _, _, body in program[2]:
        lines, starts = body_lines(body)
        # The line of the function itself stands ahead of those of its body.
        found[name] = [ahead + 2 + start for start in starts]
        ahead += 1 + len(lines)
    return found
