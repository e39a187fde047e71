"""Equal values of which all lists are new."""

from cellbills.printer import new_declaration
from cellbills.steps import rows_of, step_of


def new_function(function):
    """Return an equal function."""
    name, parameters, answer, body = function
    return name, list(parameters), answer, step_of(rows_of(body))


def new_program(program):
    """Return an equal program."""
    kinds, functions = program[1:]
    return "program", [new_declaration(row) for row in kinds], [new_function(own) for own in functions]


def flat_functions(functions):
    """Return functions with the rows of their bodies, which do not stand within one another."""
    return [(name, list(parameters), answer, rows_of(body))
            for name, parameters, answer, body in functions]


def new_takes(takes):
    """Return an equal list of taken functions."""
    return [(name, list(kinds), answer) for name, kinds, answer in takes]


def new_unit(unit):
    """Return an equal unit."""
    _, name, kinds, takes, functions = unit
    _, kinds, functions = new_program(("program", kinds, functions))
    return "unit", name, kinds, new_takes(takes), functions
