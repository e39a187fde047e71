"""Steps by their numbers, and the names that are alive at them."""

from cellbills.checker import ask_program, function_number
from cellbills.names import free_by_rows
from cellbills.steps import rows_of


def asked_rows(program, name):
    """Return the rows of the body of a function, as its steps are numbered, or raise the error."""
    ask_program(program)
    return rows_of(program[2][function_number(program, name)][3])


def how_many_steps(program, name):
    """Return how many steps the body of a function has."""
    return len(asked_rows(program, name))


def alive(program, name):
    """Return for each step of a function the list of the names that are alive at it."""
    return free_by_rows(asked_rows(program, name))
