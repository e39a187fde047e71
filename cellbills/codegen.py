"""Bodies made to rows: registers by homes, and cells filled anew by a pairing."""

from cellbills.checker import ask_program, function_number
from cellbills.errors import InvalidPaper
from cellbills.homes import are_homes, least_homes
from cellbills.layouts import asked_layout, paired_layout
from cellbills.moves import moves_of


class Coder:
    """A layout with its homes, and the numbers of the first rows of its steps."""

    def __init__(self, layout, told):
        self.layout = layout
        self.by_name = told
        self.firsts = [0] * len(layout.rows)
        # One more than the greatest of the homes, which no name has.
        self.beyond = max(list(told.values()), default=0) + 1

    def slot_of(self, name):
        """Return the register of a name."""
        return self.by_name[name]

    def slots_of(self, names):
        """Return the tuple of the registers of names."""
        return tuple([self.by_name[name] for name in names])

    def kept_slots(self, at):
        """Return the registers of the names that the step of a row keeps, from the least on."""
        return tuple(sorted([self.by_name[name] for name in self.layout.kept[at]]))

    def first_behind(self, at, end):
        """Return the place of the first row of what stands behind the step of a row."""
        return self.firsts[self.layout.links[at][end]]

    def brought(self, names):
        """Return the rows that bring names into the first registers."""
        shuffle = [(number, self.by_name[name]) for number, name in enumerate(names)]
        spare = max(self.beyond, len(shuffle) + 1)
        return [("move", first, other) for first, other in moves_of(shuffle, spare)]


def code_plain(coder, row, _):
    """Return the rows of a num or a flag."""
    return [(row[0], coder.slot_of(row[1]), row[2])]


def code_deed(coder, row, _):
    """Return the rows of a deed."""
    return [("deed", coder.slot_of(row[1]), row[2], coder.slots_of(row[3]))]


def code_built(coder, row, at):
    """Return the rows of a make or a keep."""
    tag, slots = row[-2], coder.slots_of(row[-1])
    if at not in coder.layout.partners:
        return [("build", coder.slot_of(row[1]), tag, slots)]
    taken = coder.layout.rows[coder.layout.partners[at]][1]
    return [("refill", coder.slot_of(row[1]), coder.slot_of(taken), tag, slots)]


def code_take(coder, row, at):
    """Return the rows of a take."""
    ways = tuple([(tag, coder.slots_of(names), coder.first_behind(at, end))
                  for end, (tag, names) in enumerate(row[2])])
    return [("part" if at in coder.layout.emptied else "take", coder.slot_of(row[1]), ways)]


def code_test(coder, row, at):
    """Return the rows of a test."""
    return [("test", coder.slot_of(row[1]), coder.first_behind(at, 1))]


def code_go(coder, row, _):
    """Return the rows of a go."""
    return coder.brought(row[2]) + [("jump", row[1])]


def entered(coder, kept, names):
    """Return the rows that go on with a kept function."""
    return coder.brought(names + (kept,)) + [("enter", len(names))]


def code_usego(coder, row, _):
    """Return the rows of a usego."""
    return entered(coder, row[1], row[2])


def code_call(coder, row, at):
    """Return the rows of a call."""
    push = ("push", coder.slot_of(row[1]), coder.first_behind(at, 0), coder.kept_slots(at))
    return [push] + coder.brought(row[3]) + [("jump", row[2])]


def code_use(coder, row, at):
    """Return the rows of a use."""
    push = ("push", coder.slot_of(row[1]), coder.first_behind(at, 0), coder.kept_slots(at))
    return [push] + entered(coder, row[2], row[3])


def code_try(coder, row, at):
    """Return the rows of a try."""
    value = (coder.slot_of(row[1]), coder.first_behind(at, 0))
    fault = (coder.slot_of(row[4]), coder.first_behind(at, 1))
    handle = ("handle",) + value + fault + (coder.kept_slots(at),)
    return [handle] + coder.brought(row[3]) + [("jump", row[2])]


def code_drop(coder, row, _):
    """Return the rows of a drop or a raise."""
    return [(row[0], coder.slot_of(row[1]))]


def code_end(coder, row, _):
    """Return the rows of an end."""
    return [("return", coder.slot_of(row[1]))]


CODERS = {
    "num": code_plain,
    "flag": code_plain,
    "deed": code_deed,
    "make": code_built,
    "take": code_take,
    "call": code_call,
    "go": code_go,
    "keep": code_built,
    "use": code_use,
    "usego": code_usego,
    "drop": code_drop,
    "raise": code_drop,
    "try": code_try,
    "test": code_test,
    "end": code_end,
}


def step_rows(coder, at):
    """Return the rows of a step, ahead of them those that free cells."""
    layout = coder.layout
    freed = [("free", coder.slot_of(layout.rows[taken][1])) for taken in layout.freed(at)]
    row = layout.rows[at]
    code = CODERS[row[0]]
    return freed + code(coder, row, at)


def note_firsts(coder):
    """Note the numbers of the first rows of the steps."""
    firsts, total = [], 0
    for at in range(len(coder.layout.rows)):
        firsts.append(total)
        # How many rows there are doesn't hang on the places that stand in them.
        total += len(step_rows(coder, at))
    coder.firsts = firsts


def coder_of(layout, told):
    """Return what is ready to tell the rows of a layout with a dict of homes."""
    coder = Coder(layout, told)
    note_firsts(coder)
    return coder


def code_by(coder):
    """Return the list of all rows that a coder tells."""
    return [row for at in range(len(coder.layout.rows)) for row in step_rows(coder, at)]


def paired_coder(function):
    """Return what tells the code of a function by the pairing and the homes that are chosen."""
    layout = paired_layout(function)
    return coder_of(layout, least_homes(layout))


def code_of_function(function):
    """Return the code of a function of a program by the pairing and the homes that are chosen."""
    return code_by(paired_coder(function))


def code_with(program, name, pairs, homes):
    """Return the code of a function for a right pairing and right homes."""
    layout = asked_layout(program, name, pairs)
    if not are_homes(layout, homes):
        raise InvalidPaper(homes)
    return code_by(coder_of(layout, dict(homes)))


def code_of(program, name):
    """Return the code of a function."""
    ask_program(program)
    return code_of_function(program[2][function_number(program, name)])


def listing_of(program):
    """Return the listing of what is known to be a program."""
    return [(function[0], code_of_function(function)) for function in program[2]]


def listing(program):
    """Return the list of the functions of a program with their code, in order."""
    ask_program(program)
    return listing_of(program)
