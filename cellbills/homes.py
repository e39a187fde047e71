"""Homes: a register for each name, unlike ones for names that are needed at one time."""

from cellbills.layouts import asked_layout
from cellbills.numbers import is_count

MOST_HOMES = 40


def least_homes(layout):
    """Return the dict of the least register for each name, in the order in which they are bound."""
    found = {name: number for number, name in enumerate(layout.parameters)}
    crowds = layout.crowds()
    for at, names in enumerate(layout.bound):
        taken = {found[own]: True for own in crowds[at] if own in found}
        for name in names:
            number = 0
            while number in taken:
                number += 1
            found[name] = number
            taken[number] = True
    return found


def is_home(value):
    """Tell whether a value has the form of a name with its register."""
    if not isinstance(value, tuple) or len(value) != 2:
        return False
    return isinstance(value[0], str) and is_count(value[1]) and value[1] < MOST_HOMES


def are_homes(layout, value):
    """Tell whether a value is a list of right homes for a layout."""
    if not isinstance(value, list) or not all([is_home(pair) for pair in value]):
        return False
    names = layout.parameters + [name for names in layout.bound for name in names]
    if [name for name, _ in value] != names:
        return False
    many = len(layout.parameters)
    if [number for _, number in value[:many]] != list(range(many)):
        return False
    told = dict(value)
    return all([len({told[name]: True for name in crowd}) == len(crowd) for crowd in layout.crowds()])


def is_homes(program, name, pairs, value):
    """Tell whether a value is a right list of homes of a function with a right pairing."""
    return are_homes(asked_layout(program, name, pairs), value)


def homes(program, name, pairs):
    """Return the right list of homes in which each name has the least register it can have."""
    return list(least_homes(asked_layout(program, name, pairs)).items())


def most_at_once(program, name, pairs):
    """Return the names of the first one of the crowds with the most names, in order."""
    most = {}
    for crowd in asked_layout(program, name, pairs).crowds():
        if len(crowd) > len(most):
            most = crowd
    return sorted(list(most))
