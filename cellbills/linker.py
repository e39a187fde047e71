"""Files: units made to rows by themselves, and linked without a look into their bodies."""

from cellbills.codegen import code_of_function
from cellbills.copies import new_takes
from cellbills.errors import InvalidList
from cellbills.printer import new_declaration
from cellbills.rows import is_listing_of
from cellbills.units import MOST_UNITS, alone_of, ask_fit, ask_unit, head_of, is_taken, is_unit
from cellbills.units import standing_in


def is_part(value):
    """Tell whether a value has the form of a part; its rows are not looked at."""
    return isinstance(value, tuple) and len(value) == 4 and is_taken(value[:3])


def unit_seen(file):
    """Return what a file tells of its unit, with functions that stand in for its own."""
    _, name, kinds, takes, parts = file
    return "unit", name, kinds, takes, [standing_in(part[0], part[1], part[2]) for part in parts]


def is_file(value):
    """Tell whether a value is a file."""
    if not isinstance(value, tuple) or len(value) != 5 or value[0] != "file":
        return False
    if not isinstance(value[4], list) or not all([is_part(part) for part in value[4]]):
        return False
    unit = unit_seen(value)
    if not is_unit(unit):
        return False
    rows = [(part[0], part[3]) for part in value[4]]
    # What stands for taken functions is looked at nowhere: any right rows will do.
    others = [(taken[0], [("return", 0)]) for taken in value[3]]
    return is_listing_of(alone_of(unit), rows + others)


def file_of(unit):
    """Return the file of what is known to be a unit."""
    _, name, kinds, takes, functions = unit
    parts = [head_of(function) + (code_of_function(function),) for function in functions]
    return "file", name, [new_declaration(row) for row in kinds], new_takes(takes), parts


def unit_file(unit):
    """Return the file of a unit."""
    ask_unit(unit)
    return file_of(unit)


def files_linked(files):
    """Return the list of the functions of files with their rows, in order."""
    if not isinstance(files, list) or not 1 <= len(files) <= MOST_UNITS:
        raise InvalidList(files)
    if not all([is_file(file) for file in files]):
        raise InvalidList(files)
    ask_fit([unit_seen(file) for file in files])
    return [(part[0], list(part[3])) for file in files for part in file[4]]
