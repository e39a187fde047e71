"""Programs judged: the first thing that is wrong, and where a step stands."""

from cellbills.bodies import wrong_in_body
from cellbills.errors import InvalidList, InvalidName, InvalidProgram
from cellbills.kinds import MOST_KINDS, maker_names, wrong_declaration
from cellbills.numbers import is_count
from cellbills.steps import ends_of, links_of, places_of_rows, rows_of, step_of
from cellbills.tables import Table
from cellbills.words import is_word

MOST_FUNCTIONS = 40
MOST_PARAMETERS = 8


def wrong_whole(value):
    """Return what is wrong with a program as a whole, or None."""
    if not isinstance(value, tuple) or len(value) != 3 or value[0] != "program":
        return "form"
    if not isinstance(value[1], list) or not isinstance(value[2], list):
        return "form"
    if len(value[1]) > MOST_KINDS or len(value[2]) > MOST_FUNCTIONS:
        return "many"
    return None


def is_parameter(value):
    """Tell whether a value has the form of a parameter."""
    if not isinstance(value, tuple) or len(value) != 2:
        return False
    return isinstance(value[0], str) and isinstance(value[1], str)


def is_function_form(value):
    """Tell whether a value has the form of a function; its body is not looked at."""
    if not isinstance(value, tuple) or len(value) != 4:
        return False
    name, parameters, answer, _ = value
    if not isinstance(name, str) or not isinstance(answer, str):
        return False
    if not isinstance(parameters, list) or len(parameters) > MOST_PARAMETERS:
        return False
    return all([is_parameter(parameter) for parameter in parameters])


def wrong_in_head(table, function, taken):
    """Return what is first wrong in a function but for its body, or None; note its name."""
    if not is_function_form(function):
        return "form"
    name, parameters, answer, _ = function
    names = [own for own, _ in parameters]
    if not all([is_word(word) for word in [name] + names]):
        return "name"
    if name in taken or any([names.count(own) > 1 for own in names]):
        return "twice"
    taken[name] = True
    kinds = [kind for _, kind in parameters] + [answer]
    if not all([table.has_kind(kind) for kind in kinds]):
        return "kind"
    return None


def wrong_head(kinds, functions):
    """Return (place, why) of what is first wrong in functions but for bodies, or None."""
    table = Table(kinds, [])
    taken = {maker: True for row in kinds for maker in maker_names(row)}
    for number, function in enumerate(functions):
        why = wrong_in_head(table, function, taken)
        if why is not None:
            return (1, number), why
    return None


def wrong_body(kinds, functions):
    """Return (place, why) of what is first wrong in the bodies of functions, or None."""
    table = Table(kinds, functions)
    for number, function in enumerate(functions):
        wrong = wrong_in_body(table, function, (1, number, 0))
        if wrong is not None:
            return wrong
    return None


def first_wrong(value):
    """Return (place, why) of what is first wrong in a value as a program, or None."""
    why = wrong_whole(value)
    if why is not None:
        return (), why
    kinds, functions = value[1:]
    wrong = wrong_declaration(kinds)
    if wrong is not None:
        return (0, wrong[0]), wrong[1]
    wrong = wrong_head(kinds, functions)
    if wrong is not None:
        return wrong
    return wrong_body(kinds, functions)


def is_program(value):
    """Tell whether a value is a program."""
    return first_wrong(value) is None


def ask_program(program):
    """Raise the error unless a value is a program."""
    if not is_program(program):
        raise InvalidProgram(program)


def function_number(program, name):
    """Return the number of the function of a program that has a name, or raise the error."""
    if isinstance(name, str):
        for number, function in enumerate(program[2]):
            if function[0] == name:
                return number
    raise InvalidName(name)


def is_step_place(value, program):
    """Tell whether a value has the form of a place of a step of a program."""
    if not isinstance(value, tuple) or len(value) < 3:
        return False
    if not all([is_count(number) for number in value]):
        return False
    return value[0] == 1 and value[1] < len(program[2]) and value[2] == 0


def steps_to(program, place):
    """Return the steps from the first one of a body to that at a place, or raise the error."""
    if not is_step_place(place, program):
        raise InvalidList(place)
    found = [program[2][place[1]][3]]
    for number in place[3:]:
        ends = ends_of(found[-1])
        if number >= len(ends):
            raise InvalidList(place)
        found.append(ends[number])
    return found


def step_at(program, place):
    """Return the step of a program at a place."""
    ask_program(program)
    return step_of(rows_of(steps_to(program, place)[-1]))


def places_of(program, name):
    """Return the places of the steps of a function, in order."""
    ask_program(program)
    number = function_number(program, name)
    rows = rows_of(program[2][number][3])
    return places_of_rows(links_of(rows), (1, number, 0))
