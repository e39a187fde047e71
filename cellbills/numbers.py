"""The numbers of the language, and what deeds make of numbers and flags."""

from cellbills.errors import InvalidDeed, InvalidList, InvalidNumber

LEAST = -2 ** 63
GREATEST = 2 ** 63 - 1

# Of each sign: the kind of what it wants, how many it wants, the kind of what it gives.
SHAPES = {
    "plus": ("num", 2, "num"),
    "minus": ("num", 2, "num"),
    "times": ("num", 2, "num"),
    "over": ("num", 2, "num"),
    "rest": ("num", 2, "num"),
    "less": ("num", 2, "flag"),
    "same": ("num", 2, "flag"),
    "both": ("flag", 2, "flag"),
    "any": ("flag", 2, "flag"),
    "not": ("flag", 1, "flag"),
}


def is_whole(value):
    """Tell whether a value is a whole number; Booleans are none."""
    return isinstance(value, int) and not isinstance(value, bool)


def is_count(value):
    """Tell whether a value is a whole number of at least 0."""
    return is_whole(value) and value >= 0


def is_number(value):
    """Tell whether a value is a number of the language."""
    return is_whole(value) and LEAST <= value <= GREATEST


def led_in(number):
    """Return the number of the language that differs by a multiple of 2 ** 64."""
    if not is_whole(number):
        raise InvalidNumber(number)
    return (number - LEAST) % 2 ** 64 + LEAST


def is_sign(value):
    """Tell whether a value is the sign of a deed."""
    return isinstance(value, str) and value in SHAPES


def sign_shape(sign):
    """Return the kind that a sign wants, how many of it, and the kind it gives."""
    return SHAPES[sign]


def plus(one, other):
    """Return the sum, led in."""
    return led_in(one + other)


def minus(one, other):
    """Return the difference, led in."""
    return led_in(one - other)


def times(one, other):
    """Return the product, led in."""
    return led_in(one * other)


def over(one, other):
    """Return the quotient, led in: only the least number by -1 needs it."""
    return 0 if other == 0 else led_in(one // other)


def rest(one, other):
    """Return what the quotient leaves over."""
    return one if other == 0 else one % other


def less(one, other):
    """Tell whether the first number is the lesser one."""
    return one < other


def same(one, other):
    """Tell whether two numbers are one."""
    return one == other


def both(one, other):
    """Tell whether both flags are True."""
    return one and other


def either(one, other):
    """Tell whether one of the flags is True."""
    return one or other


WORKS = {
    "plus": plus,
    "minus": minus,
    "times": times,
    "over": over,
    "rest": rest,
    "less": less,
    "same": same,
    "both": both,
    "any": either,
}


def reckoned(sign, arguments):
    """Return what a deed gives, for a sign and arguments that are known to be right."""
    if sign == "not":
        return not arguments[0]
    work = WORKS[sign]
    return work(arguments[0], arguments[1])


def is_wanted_by(sign, arguments):
    """Tell whether a value is a list of just what a sign wants."""
    kind, many, _ = sign_shape(sign)
    if not isinstance(arguments, list) or len(arguments) != many:
        return False
    if kind == "num":
        return all([is_number(argument) for argument in arguments])
    return all([isinstance(argument, bool) for argument in arguments])


def done(sign, arguments):
    """Return what a deed gives."""
    if not is_sign(sign):
        raise InvalidDeed(sign)
    if not is_wanted_by(sign, arguments):
        raise InvalidList(arguments)
    return reckoned(sign, arguments)
