"""The workshop: units that are put in, struck and changed, and the program that they make."""

from cellbills.bills import bill_or_refusal
from cellbills.copies import new_program, new_unit
from cellbills.errors import InvalidFlag, InvalidList, InvalidName, NothingToRedo, NothingToUndo
from cellbills.linker import file_of
from cellbills.machine import run
from cellbills.shelves import Shelf, all_done_to, are_deeds, done_to, told_deed
from cellbills.units import ask_fit, linked_of, misfit_of


class Workshop:
    """Units under their names, what was done to them, and their rows."""

    def __init__(self):
        self.shelf = Shelf({})
        # Tuples of a deed and the shelves ahead of it and behind it.
        self.stands = []
        self.backs = []
        # The parts of the files of all units that were held so far, by their texts.
        self.parts = {}

    def units(self):
        """Return the list of the names of the units."""
        return list(self.shelf.names)

    def unit(self, name):
        """Return the unit of a name."""
        if not self.shelf.holds(name):
            raise InvalidName(name)
        return new_unit(self.shelf.table[name].own)

    def each(self):
        """Yield (name, unit) for the units that are held when the first one is asked for."""
        for unit in self.shelf.units():
            yield unit[1], new_unit(unit)

    def __len__(self):
        return len(self.shelf.names)

    def __contains__(self, name):
        return isinstance(name, str) and name in self.shelf.table

    def __iter__(self):
        return iter(self.shelf.names)

    def __eq__(self, other):
        return isinstance(other, Workshop) and texts_of(self.shelf) == texts_of(other.shelf)

    def put(self, unit):
        """Put a unit in, in the place of that of its name, or behind all others."""
        shelf, deed = done_to(self.shelf, ("put", unit))
        note_call(self, deed, shelf)

    def strike(self, name):
        """Take the unit of a name out."""
        shelf, deed = done_to(self.shelf, ("strike", name))
        note_call(self, deed, shelf)

    def together(self, deeds, *, keep=True):
        """Do deeds one behind the other, as one; return the names that are held behind them."""
        if not are_deeds(deeds):
            raise InvalidList(deeds)
        if not isinstance(keep, bool):
            raise InvalidFlag(keep)
        shelf, done = all_done_to(self.shelf, deeds)
        if keep:
            note_call(self, ("together", done), shelf)
        return list(shelf.names)

    def undo(self):
        """Take the last call back that stands."""
        if not self.stands:
            raise NothingToUndo()
        call = self.stands.pop()
        self.backs.append(call)
        self.shelf = call[1]

    def redo(self):
        """Do the call again that was taken back last."""
        if not self.backs:
            raise NothingToRedo()
        call = self.backs.pop()
        self.stands.append(call)
        self.shelf = call[2]

    def log(self):
        """Return the list of the calls that stand, in order."""
        return [told_deed(deed) for deed, _, _ in self.stands]

    def made(self):
        """Return how many unlike units were held so far."""
        return len(self.parts)

    def copy(self):
        """Return another workshop with the same units, calls and rows."""
        other = Workshop()
        other.shelf = self.shelf
        other.stands = list(self.stands)
        other.backs = list(self.backs)
        other.parts = dict(self.parts)
        return other

    def misfit(self):
        """Return the first thing by which the units do not fit, or None."""
        return misfit_of(self.shelf.units())

    def program(self):
        """Return the linked program of the units."""
        return new_program(linked_of(self.shelf.units()))

    def code(self):
        """Return the listing of the linked program."""
        ask_fit(self.shelf.units())
        found = []
        for held in self.shelf.table.values():
            found.extend([(part[0], list(part[3])) for part in self.parts[held.text]])
        return found

    def bill(self):
        """Return a bill or a refusal of the linked program."""
        return bill_or_refusal(linked_of(self.shelf.units()))

    def run(self, name, arguments, cells, rows):
        """Run the linked program on the machine; return what behind a run is told."""
        return run(linked_of(self.shelf.units()), self.code(), name, arguments, cells, rows)


def texts_of(shelf):
    """Return the list of the texts of the units of a shelf."""
    return [held.text for held in shelf.table.values()]


def note_call(workshop, deed, shelf):
    """Note a call that was done and what came of it; make the rows of units that are new."""
    workshop.stands.append((deed, workshop.shelf, shelf))
    workshop.backs = []
    workshop.shelf = shelf
    for held in shelf.table.values():
        if held.text not in workshop.parts:
            workshop.parts[held.text] = file_of(held.own)[4]
