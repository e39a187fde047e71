"""Passes: all rewritings of a program, and many of them done one behind the other."""

from cellbills.checker import ask_program
from cellbills.edits import CHECKS, can_do, do_rule
from cellbills.errors import InvalidPaper
from cellbills.looks import Bench
from cellbills.rewrites import did_rewrite
from cellbills.steps import place_along, places_of_rows


def plain_rules():
    """Return the rules but that by which calls become bodies, in order."""
    return [rule for rule in CHECKS if rule != "inlined"]


def rewritings_in(bench, number, rules):
    """Return the list of the rewritings of a function by some rules."""
    look = bench.look(number)
    places = places_of_rows(look.links, (1, number, 0))
    return [(rule, places[at]) for at in range(len(look.rows)) for rule in rules
            if can_do(bench, rule, number, at)]


def rewritings(program):
    """Return the list of all rewritings of a program."""
    ask_program(program)
    bench = Bench(program)
    found = []
    for rules in (plain_rules(), ["inlined"]):
        for number in range(len(program[2])):
            found.extend(rewritings_in(bench, number, rules))
    return found


def first_plain(bench, number, rules):
    """Return the first rule that stands at a row of a function, and the row, or None."""
    for at in range(len(bench.rows[number])):
        for rule in rules:
            if can_do(bench, rule, number, at):
                return rule, at
    return None


def passed(program):
    """Return what is left if the first plain rewriting is done over and over, and those done."""
    ask_program(program)
    bench, papers, rules = Bench(program), [], plain_rules()
    # What is done to a function brings no such rewriting of another one.
    for number in range(len(program[2])):
        found = first_plain(bench, number, rules)
        while found is not None:
            rule, at = found
            papers.append((rule, place_along(bench.look(number).links, (1, number, 0), at)))
            do_rule(bench, rule, number, at)
            found = first_plain(bench, number, rules)
    return bench.program(), papers


def led_along(program, value):
    """Return the bench to which a list of rewritings leads, None if a value is no such list."""
    if not isinstance(value, list):
        return None
    bench = Bench(program)
    for item in value:
        if not did_rewrite(bench, program, item):
            return None
    return bench


def is_passage(program, value):
    """Tell whether a value is a list of rewritings that lead on from a program."""
    ask_program(program)
    return led_along(program, value) is not None


def led_by_passage(program, papers):
    """Return the program to which a list of rewritings leads."""
    ask_program(program)
    bench = led_along(program, papers)
    if bench is None:
        raise InvalidPaper(papers)
    return bench.program()
