"""Peaks: the least number of cells in hand with which a reading does not want."""

from cellbills.plans import place_at
from cellbills.reading import MOST_STEPS_READ, ask_reading, ask_steps, begun, read_on
from cellbills.values import cells_of

# More than any reading takes: no step takes as many as a ten-thousandth of these.
ENOUGH = 10 ** 9


def ask_peak(program, name, arguments, steps):
    """Raise the error for the first one that is wrong of what each peak is asked by."""
    ask_reading(program, name, arguments)
    ask_steps(steps, MOST_STEPS_READ)


def peak_of(program, name, arguments, steps):
    """Return the peak of a reading, for arguments that are known to be right."""
    reading = begun(program, name, arguments, ENOUGH)
    read_on(reading, steps)
    return ENOUGH - reading.fewest


def peak(program, name, arguments, steps):
    """Return the least number in hand with which at most so many steps do not want."""
    ask_peak(program, name, arguments, steps)
    return peak_of(program, name, arguments, steps)


def need(program, name, arguments, steps):
    """Return the peak and the sizes of the arguments together."""
    ask_peak(program, name, arguments, steps)
    return peak_of(program, name, arguments, steps) + sum([cells_of(thing) for thing in arguments])


def narrowest(program, name, arguments, steps):
    """Return how many steps are read with one cell less than the peak, and where it wants."""
    ask_peak(program, name, arguments, steps)
    least = peak_of(program, name, arguments, steps)
    if least == 0:
        return None
    reading = begun(program, name, arguments, least - 1)
    _, many = read_on(reading, steps)
    return many, place_at(reading.plan, reading.number)
