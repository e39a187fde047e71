"""Readings whose things know what they are told as, and where a flag could pass for a number.

True is equal to 1 and False to 0, so that equal values need not be just the same. To look
through all of a thing for flags at each state would take long: a marked thing is a node or
kept function with two more items, the list of (number, part) of those of its parts in which
such a flag or number stands, and the thing itself, which what is equal is compared with.
"""

from cellbills.reading import Reading
from cellbills.values import is_plain, rebuilt


def is_doubtful(part):
    """Tell whether a part of a marked thing could be another one and equal all the same."""
    return part in (0, 1) if is_plain(part) else len(part[3]) > 0


def plain_of(part):
    """Return the thing itself of a marked one."""
    return part if is_plain(part) else part[4]


def marked_of(thing, parts):
    """Return a thing marked, whose parts are marked already."""
    doubts = [(number, part) for number, part in enumerate(parts) if is_doubtful(part)]
    return thing[0], thing[1], parts, doubts, thing


class Marking(Reading):
    """A reading whose things are marked."""

    def owned(self, sort, tag, parts):
        """Return a marked node or kept function."""
        return marked_of((sort, tag, tuple([plain_of(part) for part in parts])), parts)

    def noted(self, thing):
        """Return a thing as this reading holds it."""
        return rebuilt(thing, marked_of)

    def told(self, thing):
        """Return a thing that this reading holds as it is told."""
        return plain_of(thing)


def is_just(value, marked):
    """Tell whether a value that is equal to a marked thing is just the same, flags and all."""
    waiting = [(value, marked)]
    while waiting:
        own, part = waiting.pop()
        if not is_plain(part):
            waiting.extend([(own[2][number], inner) for number, inner in part[3]])
        elif isinstance(own, bool) != isinstance(part, bool):
            return False
    return True
