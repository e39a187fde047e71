"""Rewritings: whether one stands at a place of a program, and what comes of it."""

from cellbills.checker import ask_program, is_step_place
from cellbills.edits import CHECKS, can_do, do_rule
from cellbills.errors import InvalidPaper
from cellbills.looks import Bench
from cellbills.steps import row_at


def did_rewrite(bench, program, value):
    """Do a rewriting if a value is one of the program as it stands; return whether it is."""
    if not isinstance(value, tuple) or len(value) != 2:
        return False
    rule, place = value
    if not isinstance(rule, str) or rule not in CHECKS or not is_step_place(place, program):
        return False
    at = row_at(bench.look(place[1]).links, place)
    if at is None or not can_do(bench, rule, place[1], at):
        return False
    do_rule(bench, rule, place[1], at)
    return True


def is_rewriting(program, value):
    """Tell whether a value is a rewriting of a program."""
    ask_program(program)
    return did_rewrite(Bench(program), program, value)


def rewritten(program, rewriting):
    """Return the program that comes of a rewriting."""
    ask_program(program)
    bench = Bench(program)
    if not did_rewrite(bench, program, rewriting):
        raise InvalidPaper(rewriting)
    return bench.program()
