"""Rows: whether a value is a listing of a program, row by row."""

from cellbills.checker import ask_program
from cellbills.kinds import MOST_PARTS
from cellbills.numbers import is_number, is_sign, is_whole, sign_shape
from cellbills.tables import table_of

SLOTS = 64
MOST_ROWS = 30000


class Setting:
    """What rows of a program may name: parts of constructors, parameters of functions, places."""

    def __init__(self, program):
        table = table_of(program)
        self.makers = {maker: len(parts) for maker, (_, parts) in table.makers.items()}
        self.heads = {name: len(kinds) for name, (kinds, _) in table.heads.items()}
        # How many rows the function has that is looked at.
        self.total = 0

    def is_place(self, value):
        """Tell whether a value is the number of a row of the function that is looked at."""
        return is_whole(value) and 0 <= value < self.total

    def is_function(self, value):
        """Tell whether a value is the name of a function."""
        return isinstance(value, str) and value in self.heads

    def allows(self, tag, many):
        """Tell whether a value is a tag of things that may have so many parts."""
        if not isinstance(tag, str):
            return False
        if tag in self.makers:
            return self.makers[tag] == many
        return tag in self.heads and many <= min(MOST_PARTS, self.heads[tag])


def is_slot(value):
    """Tell whether a value is a register of the machine."""
    return is_whole(value) and 0 <= value < SLOTS


def are_slots(value):
    """Tell whether a value is a tuple of registers."""
    return isinstance(value, tuple) and all([is_slot(slot) for slot in value])


def are_unlike(values):
    """Tell whether the items of a list or tuple of numbers or strings are unlike one another."""
    return len({value: True for value in values}) == len(values)


def is_number_row(_, row):
    """Tell whether a row is a right num."""
    return len(row) == 3 and is_slot(row[1]) and is_number(row[2])


def is_flag_row(_, row):
    """Tell whether a row is a right flag."""
    return len(row) == 3 and is_slot(row[1]) and isinstance(row[2], bool)


def is_move_row(_, row):
    """Tell whether a row is a right move."""
    return len(row) == 3 and is_slot(row[1]) and is_slot(row[2])


def is_deed_row(_, row):
    """Tell whether a row is a right deed."""
    if len(row) != 4 or not is_slot(row[1]) or not is_sign(row[2]):
        return False
    return are_slots(row[3]) and len(row[3]) == sign_shape(row[2])[1]


def is_build_row(setting, row):
    """Tell whether a row is a right build."""
    if len(row) != 4 or not is_slot(row[1]) or not are_slots(row[3]):
        return False
    return setting.allows(row[2], len(row[3]))


def is_way(setting, value):
    """Tell whether a value is a right way of a take or a part."""
    if not isinstance(value, tuple) or len(value) != 3 or not are_slots(value[1]):
        return False
    if not setting.allows(value[0], len(value[1])):
        return False
    return are_unlike(value[1]) and setting.is_place(value[2])


def is_take_row(setting, row):
    """Tell whether a row is a right take or part."""
    if len(row) != 3 or not is_slot(row[1]) or not isinstance(row[2], tuple) or not row[2]:
        return False
    if not all([is_way(setting, way) for way in row[2]]):
        return False
    return are_unlike([way[0] for way in row[2]])


def is_refill_row(setting, row):
    """Tell whether a row is a right refill."""
    if len(row) != 5 or not is_slot(row[1]) or not is_slot(row[2]):
        return False
    return are_slots(row[4]) and len(row[4]) > 0 and setting.allows(row[3], len(row[4]))


def is_slot_row(_, row):
    """Tell whether a row is a right one that names a register alone."""
    return len(row) == 2 and is_slot(row[1])


def is_test_row(setting, row):
    """Tell whether a row is a right test."""
    return len(row) == 3 and is_slot(row[1]) and setting.is_place(row[2])


def is_push_row(setting, row):
    """Tell whether a row is a right push."""
    if len(row) != 4 or not is_slot(row[1]) or not setting.is_place(row[2]):
        return False
    return are_slots(row[3]) and are_unlike(row[3]) and row[1] not in row[3]


def is_handle_row(setting, row):
    """Tell whether a row is a right handle."""
    if len(row) != 6 or not is_slot(row[1]) or not setting.is_place(row[2]):
        return False
    if not is_slot(row[3]) or not setting.is_place(row[4]) or not are_slots(row[5]):
        return False
    return are_unlike(row[5]) and row[1] not in row[5] and row[3] not in row[5]


def is_jump_row(setting, row):
    """Tell whether a row is a right jump."""
    return len(row) == 2 and setting.is_function(row[1])


LOOKS = {
    "num": is_number_row,
    "flag": is_flag_row,
    "move": is_move_row,
    "deed": is_deed_row,
    "build": is_build_row,
    "take": is_take_row,
    "part": is_take_row,
    "refill": is_refill_row,
    "free": is_slot_row,
    "drop": is_slot_row,
    "test": is_test_row,
    "push": is_push_row,
    "handle": is_handle_row,
    "jump": is_jump_row,
    "enter": is_slot_row,
    "return": is_slot_row,
    "raise": is_slot_row,
}


def is_row(setting, value):
    """Tell whether a value is a right row of the function that is looked at."""
    if not isinstance(value, tuple) or not value or not isinstance(value[0], str):
        return False
    if value[0] not in LOOKS:
        return False
    look = LOOKS[value[0]]
    return look(setting, value)


def are_rows(setting, value):
    """Tell whether a value is a list of right rows of a function."""
    if not isinstance(value, list) or not 1 <= len(value) <= MOST_ROWS:
        return False
    setting.total = len(value)
    for row in value:
        if not is_row(setting, row):
            return False
    return True


def is_function_with(value, name):
    """Tell whether a value is a tuple of just this name and of whatever rows."""
    if not isinstance(value, tuple) or len(value) != 2:
        return False
    return isinstance(value[0], str) and value[0] == name


def is_listing_of(program, value):
    """Tell whether a value is a listing of what is known to be a program."""
    names = [function[0] for function in program[2]]
    if not isinstance(value, list) or len(value) != len(names):
        return False
    if not all([is_function_with(part, name) for part, name in zip(value, names)]):
        return False
    setting = Setting(program)
    return all([are_rows(setting, rows) for _, rows in value])


def is_listing(program, value):
    """Tell whether a value is a listing of a program."""
    ask_program(program)
    return is_listing_of(program, value)
