"""Units: parts of a program that are judged and made by themselves, and whether they fit."""

from cellbills.checker import MOST_FUNCTIONS, MOST_PARAMETERS, ask_program, is_program
from cellbills.copies import new_program
from cellbills.errors import InvalidList, InvalidUnit, TooMany, Unlike
from cellbills.kinds import MOST_KINDS, maker_names
from cellbills.names import functions_in
from cellbills.tables import is_owned
from cellbills.words import are_strings, is_word, letters, short_words

MOST_TAKEN = 12
MOST_UNITS = 12


def standing_in(name, kinds, answer):
    """Return the function that stands in a program for one of which only the kinds are told."""
    names = short_words(len(kinds), {})
    body = ("num", "z", 0, ("raise", "z"))
    for own, kind in list(zip(names, kinds))[::-1]:
        if is_owned(kind):
            body = ("drop", own, body)
    return name, list(zip(names, kinds)), answer, body


def alone_of(unit):
    """Return the program alone of what has the form of a unit; it shares lists with it."""
    others = [standing_in(name, kinds, answer) for name, kinds, answer in unit[3]]
    return "program", unit[2], unit[4] + others


def is_taken(value):
    """Tell whether a value has the form of a taken function."""
    if not isinstance(value, tuple) or len(value) != 3:
        return False
    name, kinds, answer = value
    if not isinstance(name, str) or not isinstance(answer, str) or not isinstance(kinds, list):
        return False
    return len(kinds) <= MOST_PARAMETERS and are_strings(kinds)


def is_unit_form(value):
    """Tell whether a value has the form of a unit; whether its program alone is one is not asked."""
    if not isinstance(value, tuple) or len(value) != 5 or value[0] != "unit":
        return False
    _, name, kinds, takes, functions = value
    if not is_word(name) or not isinstance(kinds, list) or not isinstance(functions, list):
        return False
    if not isinstance(takes, list) or len(takes) > MOST_TAKEN:
        return False
    return all([is_taken(own) for own in takes])


def is_unit(value):
    """Tell whether a value is a unit."""
    return is_unit_form(value) and is_program(alone_of(value))


def ask_unit(unit):
    """Raise the error unless a value is a unit."""
    if not is_unit(unit):
        raise InvalidUnit(unit)


def ask_units(units):
    """Raise the error unless a value is a list of units."""
    if not isinstance(units, list) or not 1 <= len(units) <= MOST_UNITS:
        raise InvalidList(units)
    if not all([is_unit(unit) for unit in units]):
        raise InvalidList(units)


def alone(unit):
    """Return the program alone of a unit."""
    ask_unit(unit)
    return new_program(alone_of(unit))


def head_of(function):
    """Return the name of a function, the kinds of its parameters, and the kind of its answer."""
    name, parameters, answer, _ = function
    return name, [kind for _, kind in parameters], answer


def first_twice(word, pairs):
    """Return (word, unit, name) of the first pair (name, unit) whose name stands ahead, or None."""
    names = {}
    for name, unit in pairs:
        if name in names:
            return word, unit, name
        names[name] = True
    return None


def misfit_names(units):
    """Return what tells that two units or two functions have one name, or None."""
    why = first_twice("unit", [(unit[1], unit[1]) for unit in units])
    if why is not None:
        return why
    return first_twice("function", [(function[0], unit[1]) for unit in units for function in unit[4]])


def misfit_kinds(units):
    """Return what tells that two declarations with one name are unlike, or None."""
    found = {}
    for unit in units:
        for declaration in unit[2]:
            if found.setdefault(declaration[1], declaration) != declaration:
                return "kind", unit[1], declaration[1]
    return None


def misfit_makers(units):
    """Return what tells that the name of a constructor stands for another thing, too, or None."""
    makers, names = {}, {}
    for unit in units:
        for declaration in unit[2]:
            for maker in maker_names(declaration):
                if maker in names or makers.setdefault(maker, declaration[1]) != declaration[1]:
                    return "constructor", unit[1], maker
        for function in unit[4]:
            if function[0] in makers:
                return "constructor", unit[1], function[0]
            names[function[0]] = True
    return None


def misfit_taken(units):
    """Return what tells that a taken function is none of another unit, or is unlike it, or None."""
    heads = {function[0]: head_of(function) for unit in units for function in unit[4]}
    for unit in units:
        for taken in unit[3]:
            if taken[0] not in heads:
                return "missing", unit[1], taken[0]
    for unit in units:
        for taken in unit[3]:
            if heads[taken[0]] != taken:
                return "unlike", unit[1], taken[0]
    return None


def misfit_of(units):
    """Return the first thing by which what is known to be units does not fit, or None."""
    why = misfit_names(units)
    if why is None:
        why = misfit_kinds(units)
    if why is None:
        why = misfit_makers(units)
    return misfit_taken(units) if why is None else why


def misfit(units):
    """Return the first thing by which units do not fit, or None."""
    ask_units(units)
    return misfit_of(units)


def ask_fit(units):
    """Raise the error unless what is known to be units fits and is not too much for a program."""
    why = misfit_of(units)
    if why is not None:
        raise Unlike(why)
    many = sum([len(unit[4]) for unit in units])
    if many > MOST_FUNCTIONS:
        raise TooMany(many)
    many = len(kinds_of_units(units))
    if many > MOST_KINDS:
        raise TooMany(many)


def kinds_of_units(units):
    """Return the list of the declarations of units that fit, in the order in which they are met."""
    found = {}
    for unit in units:
        for declaration in unit[2]:
            found.setdefault(declaration[1], declaration)
    return list(found.values())


def linked_of(units):
    """Return the program of what is known to be units, or raise the error; it shares their lists."""
    ask_fit(units)
    return "program", kinds_of_units(units), [function for unit in units for function in unit[4]]


def linked(units):
    """Return the program of all declarations and functions of units."""
    ask_units(units)
    return new_program(linked_of(units))


def are_lots(program, value):
    """Tell whether a value is a list of lists in which each function's name stands just once."""
    if not isinstance(value, list) or not 1 <= len(value) <= MOST_UNITS:
        return False
    if not all([isinstance(lot, list) and are_strings(lot) for lot in value]):
        return False
    names = [name for lot in value for name in lot]
    return sorted(names) == sorted([function[0] for function in program[2]])


def taken_by(program, lot):
    """Return the heads of the functions that those of a lot need of other lots, in order."""
    own = {name: True for name in lot}
    bodies = [function[3] for function in program[2] if function[0] in own]
    wanted = {name: True for body in bodies for name in functions_in(body)}
    return [head_of(function) for function in program[2]
            if function[0] in wanted and function[0] not in own]


def parted(program, lots):
    """Return the list of the units of the lots into which the functions of a program are parted."""
    ask_program(program)
    if not are_lots(program, lots):
        raise InvalidList(lots)
    takes = [taken_by(program, lot) for lot in lots]
    for own in takes:
        if len(own) > MOST_TAKEN:
            raise TooMany(len(own))
    found = []
    for number, lot in enumerate(lots):
        _, kinds, functions = new_program(program)
        table = {function[0]: function for function in functions}
        unit = ("unit", "u" + letters(number), kinds, takes[number], [table[name] for name in lot])
        found.append(unit)
    return found
