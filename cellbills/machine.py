"""The machine: registers, a place, and cells, which are all the room there is."""

from cellbills.cells import Store, laid_in
from cellbills.checker import ask_program, function_number
from cellbills.copies import flat_functions
from cellbills.errors import InvalidNumber, InvalidRows
from cellbills.leaps import do_row
from cellbills.numbers import is_count
from cellbills.printer import new_declaration
from cellbills.reading import ask_arguments
from cellbills.rows import SLOTS, is_listing_of
from cellbills.tables import table_of
from cellbills.values import cells_of

MOST_CELLS = 50000
MOST_ROWS_DONE = 1000000


class Book:
    """A program and its rows, as a machine holds them: nothing of it is ever changed."""

    def __init__(self, program, listing):
        # Bodies are held as rows, which do not stand within one another and hold no lists.
        self.kinds = [new_declaration(row) for row in program[1]]
        self.functions = flat_functions(program[2])
        self.rows = {name: list(rows) for name, rows in listing}
        heads = table_of(program).heads
        self.heads = {name: len(kinds) for name, (kinds, _) in heads.items()}

    def is_of(self, program):
        """Tell whether it is that of what is known to be a program."""
        return self.kinds == program[1] and self.functions == flat_functions(program[2])


def ask_machine(program, listing, name, arguments, cells):
    """Raise the error for the first one that is wrong of what a machine is made with."""
    ask_program(program)
    if not is_listing_of(program, listing):
        raise InvalidRows(listing)
    function_number(program, name)
    ask_arguments(program, name, arguments)
    least = sum([cells_of(thing) for thing in arguments])
    if not is_count(cells) or not least <= cells <= MOST_CELLS:
        raise InvalidNumber(cells)


def ask_rows_done(rows):
    """Raise the error unless a value is a count of rows that may be done at once."""
    if not is_count(rows) or rows > MOST_ROWS_DONE:
        raise InvalidNumber(rows)


class Machine:
    """A machine that runs a listing of a program."""

    def __init__(self, program, listing, name, arguments, cells):
        ask_machine(program, listing, name, arguments, cells)
        self.book = Book(program, listing)
        self.store = Store(cells)
        contents = [laid_in(self.store, thing) for thing in arguments]
        self.slots = contents + [None] * (SLOTS - len(contents))
        self.frame = 0
        self.handler = 0
        self.name = name
        self.rows = self.book.rows[name]
        self.at = 0
        self.done = 0
        self.ended = None

    @property
    def outcome(self):
        """The outcome, None as long as it runs."""
        return self.ended

    @property
    def place(self):
        """The function and the number of the row that is done next."""
        return self.name, self.at

    @property
    def many(self):
        """How many rows were done."""
        return self.done

    def step(self):
        """Do one row; return the outcome, None as long as it runs."""
        if self.ended is None:
            self.ended = do_row(self)
        return self.ended

    def run(self, rows):
        """Do at most so many rows; return the outcome."""
        ask_rows_done(rows)
        for _ in range(rows):
            if self.ended is not None:
                break
            self.ended = do_row(self)
        return ("on",) if self.ended is None else self.ended

    def available(self):
        """Return how many cells are free, with all that lie below others."""
        return self.store.count_free(MOST_CELLS)

    def picture(self):
        """Return the registers, the frame, the handler, the first free cell, and the cells."""
        store = self.store
        cells = list(zip(store.marks[1:], store.contents[1:], store.links[1:]))
        return list(self.slots), self.frame, self.handler, store.first, cells

    def copy(self):
        """Return an equal machine of its own."""
        other = smallest_machine()
        other.book = self.book
        other.store = self.store.copied()
        other.slots = list(self.slots)
        other.frame, other.handler = self.frame, self.handler
        other.name, other.rows, other.at = self.name, self.rows, self.at
        other.done, other.ended = self.done, self.ended
        return other

    def __eq__(self, other):
        if not isinstance(other, Machine):
            return False
        return are_alike_books(self.book, other.book) and are_alike_stands(self, other)


def smallest_machine():
    """Return a machine that takes no time to check, to be made another one."""
    program = ("program", [], [("f", [], "num", ("num", "n", 0, ("end", "n")))])
    return Machine(program, [("f", [("num", 0, 0)])], "f", [], 0)


def are_alike_books(one, other):
    """Tell whether two programs with their listings are equal."""
    return (one.kinds, one.functions, one.rows) == (other.kinds, other.functions, other.rows)


def are_alike_stands(one, other):
    """Tell whether two machines with equal rows stand alike."""
    if (one.name, one.at, one.done) != (other.name, other.at, other.done):
        return False
    if (one.frame, one.handler, one.store.first) != (other.frame, other.handler, other.store.first):
        return False
    if one.store.marks != other.store.marks or one.store.links != other.store.links:
        return False
    # True is equal to 1, but not written so.
    if repr(one.slots) != repr(other.slots) or repr(one.store.contents) != repr(other.store.contents):
        return False
    return short_outcome(one.ended) == short_outcome(other.ended)


def short_outcome(outcome):
    """Return an outcome without the thing that it may tell, which the cells tell, too."""
    return "value" if outcome is not None and outcome[0] == "value" else outcome


def run(program, listing, name, arguments, cells, rows):
    """Return the outcome, the available cells and the number of rows done behind a run."""
    machine = Machine(program, listing, name, arguments, cells)
    outcome = machine.run(rows)
    return outcome, machine.available(), machine.done
