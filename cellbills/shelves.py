"""Shelves: units by their names in an order; what is done to one makes another one of it."""

from cellbills.copies import flat_functions, new_unit
from cellbills.errors import InvalidName, TooMany
from cellbills.units import MOST_UNITS, ask_unit

DEEDS = ("put", "strike")


class Held:
    """A unit as it is held: a copy of its own, which is never changed, and a text that tells it."""

    def __init__(self, unit):
        self.name = unit[1]
        self.own = new_unit(unit)
        # Equal units have equal texts; bodies are told as rows, however deep they are.
        self.text = repr(unit[1:4] + (flat_functions(unit[4]),))


class Shelf:
    """Units in the order in which their names were put in; it is never changed."""

    def __init__(self, table):
        self.table = table
        self.names = list(table)

    def holds(self, name):
        """Tell whether a unit of a name is held."""
        return isinstance(name, str) and name in self.table

    def with_unit(self, held):
        """Return a shelf with a unit in the place of that of its name, or behind all others."""
        if held.name not in self.table and len(self.table) == MOST_UNITS:
            raise TooMany(MOST_UNITS + 1)
        table = dict(self.table)
        table[held.name] = held
        return Shelf(table)

    def without_unit(self, name):
        """Return a shelf without the unit of a name."""
        if not self.holds(name):
            raise InvalidName(name)
        return Shelf({own: held for own, held in self.table.items() if own != name})

    def units(self):
        """Return the list of the units; they are not copied."""
        return [held.own for held in self.table.values()]


def are_deeds(value):
    """Tell whether a value is a list of deeds; whether they can be done is not asked."""
    if not isinstance(value, list):
        return False
    for deed in value:
        if not isinstance(deed, tuple) or len(deed) != 2 or not isinstance(deed[0], str):
            return False
        if deed[0] not in DEEDS:
            return False
    return True


def done_to(shelf, deed):
    """Return the shelf that comes of a deed, and the deed as it is held."""
    word, value = deed
    if word == "strike":
        return shelf.without_unit(value), deed
    ask_unit(value)
    held = Held(value)
    return shelf.with_unit(held), (word, held)


def all_done_to(shelf, deeds):
    """Return the shelf that comes of deeds one behind the other, and the deeds as they are held."""
    found = []
    for deed in deeds:
        shelf, told = done_to(shelf, deed)
        found.append(told)
    return shelf, found


def told_deed(deed):
    """Return a deed that is held as it is told."""
    word, value = deed
    if word == "together":
        return word, [told_deed(own) for own in value]
    return word, new_unit(value.own) if word == "put" else value
