"""The plain reading of a program: step by step, with free cells in hand."""

from cellbills.checker import ask_program, function_number
from cellbills.errors import InvalidList, InvalidNumber
from cellbills.numbers import is_count, reckoned
from cellbills.plans import Plan
from cellbills.tables import table_of
from cellbills.values import cells_of, is_of_kind

MOST_STEPS_READ = 100000
WANT = ("want",)


class Reading:
    """Where a reading stands: its step, the names bound there, frames, and cells in hand."""

    def __init__(self, program, hand):
        self.numbers = {function[0]: number for number, function in enumerate(program[2])}
        self.functions = program[2]
        # Plans are made when a function is first come to: most readings need a few alone.
        self.plans = {}
        self.hand = hand
        # The fewest that were in hand behind what a step took.
        self.fewest = hand
        self.frames = []
        self.plan = None
        self.number = 0
        self.bound = {}

    def plan_of(self, number):
        """Return the plan of the function with a number."""
        if number not in self.plans:
            self.plans[number] = Plan(number, self.functions[number])
        return self.plans[number]

    def begin(self, name, arguments):
        """Begin a function."""
        self.plan = self.plan_of(self.numbers[name])
        self.number = 0
        self.bound = dict(zip(self.plan.parameters, arguments))

    def row(self):
        """Return the row of the step that is read next."""
        return self.plan.rows[self.number]

    def things(self, names):
        """Return the tuple of what names are bound to."""
        return tuple([self.bound[name] for name in names])

    def owned(self, sort, tag, parts):
        """Return a node or a kept function."""
        return sort, tag, parts

    def noted(self, thing):
        """Return a thing as this reading holds it."""
        return thing

    def told(self, thing):
        """Return a thing that this reading holds as it is told."""
        return thing

    def go_on(self, end):
        """Go on with an end of the step that was read."""
        self.number = self.plan.links[self.number][end]

    def pay(self, cost):
        """Take cells; return whether they were in hand."""
        if cost > self.hand:
            return False
        self.hand -= cost
        if self.hand < self.fewest:
            self.fewest = self.hand
        return True

    def set_aside(self):
        """Take the cells of a frame and lay it; return whether they were in hand."""
        if not self.pay(self.plan.costs[self.number]):
            return False
        self.frames.append((self.plan, self.number, self.bound))
        return True

    def leave(self):
        """Leave the last frame and give its cells back; return its row."""
        self.plan, self.number, self.bound = self.frames.pop()
        self.hand += self.plan.costs[self.number]
        return self.plan.rows[self.number]


def read_plain(reading, row):
    """Read a num or a flag."""
    reading.bound[row[1]] = row[2]
    reading.go_on(0)


def read_deed(reading, row):
    """Read a deed."""
    reading.bound[row[1]] = reckoned(row[2], reading.things(row[3]))
    reading.go_on(0)


def bind_owned(reading, name, sort, tag, names):
    """Bind a name to a new node or kept function of what names are bound to."""
    if not reading.pay(1 if names else 0):
        return WANT
    reading.bound[name] = reading.owned(sort, tag, reading.things(names))
    reading.go_on(0)
    return None


def read_make(reading, row):
    """Read a make."""
    return bind_owned(reading, row[1], "node", row[2], row[3])


def read_keep(reading, row):
    """Read a keep."""
    return bind_owned(reading, row[1], "kept", row[3], row[4])


def read_take(reading, row):
    """Read a take."""
    thing = reading.bound[row[1]]
    tag, parts = thing[1], thing[2]
    end = [own for own, _ in row[2]].index(tag)
    for name, part in zip(row[2][end][1], parts):
        reading.bound[name] = part
    reading.hand += 1 if parts else 0
    reading.go_on(end)


def read_call(reading, row):
    """Read a call or a try."""
    arguments = reading.things(row[3])
    if not reading.set_aside():
        return WANT
    reading.begin(row[2], arguments)
    return None


def read_go(reading, row):
    """Read a go."""
    reading.begin(row[1], reading.things(row[2]))


def enter(reading, thing, arguments):
    """Begin the function of a kept function, whose cell is given back."""
    reading.hand += 1 if thing[2] else 0
    reading.begin(thing[1], thing[2] + arguments)


def read_use(reading, row):
    """Read a use."""
    thing, arguments = reading.bound[row[2]], reading.things(row[3])
    if not reading.set_aside():
        return WANT
    enter(reading, thing, arguments)
    return None


def read_usego(reading, row):
    """Read a usego."""
    enter(reading, reading.bound[row[1]], reading.things(row[2]))


def read_drop(reading, row):
    """Read a drop."""
    reading.hand += cells_of(reading.bound[row[1]])
    reading.go_on(0)


def read_test(reading, row):
    """Read a test."""
    reading.go_on(0 if reading.bound[row[1]] else 1)


def read_end(reading, row):
    """Read an end."""
    thing = reading.bound[row[1]]
    if not reading.frames:
        return "value", thing
    waiting = reading.leave()
    reading.bound[waiting[1]] = thing
    reading.go_on(0)
    return None


def read_raise(reading, row):
    """Read a raise."""
    number = reading.bound[row[1]]
    while reading.frames:
        waiting = reading.leave()
        if waiting[0] == "try":
            reading.bound[waiting[4]] = number
            reading.go_on(1)
            return None
        kept = reading.things(reading.plan.kept[reading.number])
        reading.hand += sum([cells_of(thing) for thing in kept])
    return "fault", number


READERS = {
    "num": read_plain,
    "flag": read_plain,
    "deed": read_deed,
    "make": read_make,
    "take": read_take,
    "call": read_call,
    "go": read_go,
    "keep": read_keep,
    "use": read_use,
    "usego": read_usego,
    "drop": read_drop,
    "raise": read_raise,
    "try": read_call,
    "test": read_test,
    "end": read_end,
}


def read_step(reading):
    """Read a step; return the outcome if the reading ends with it, otherwise None."""
    row = reading.row()
    reader = READERS[row[0]]
    return reader(reading, row)


def are_arguments(program, name, value):
    """Tell whether a value is a list of right arguments of a function of a program."""
    table = table_of(program)
    kinds = table.heads[name][0]
    if not isinstance(value, list) or len(value) != len(kinds):
        return False
    return all([is_of_kind(table, kind, thing) for kind, thing in zip(kinds, value)])


def ask_arguments(program, name, arguments):
    """Raise the error unless a value is a list of right arguments of a function."""
    if not are_arguments(program, name, arguments):
        raise InvalidList(arguments)


def ask_reading(program, name, arguments):
    """Raise the error for the first one that is wrong of what each reading is given."""
    ask_program(program)
    function_number(program, name)
    ask_arguments(program, name, arguments)


def ask_hand(hand):
    """Raise the error unless a value may be the cells in hand."""
    if not is_count(hand):
        raise InvalidNumber(hand)


def ask_steps(steps, most):
    """Raise the error unless a value is a count of at most so many steps."""
    if not is_count(steps) or steps > most:
        raise InvalidNumber(steps)


def begun(program, name, arguments, hand):
    """Return the reading that stands at the first step of a function."""
    reading = Reading(program, hand)
    reading.begin(name, arguments)
    return reading


def read_on(reading, steps):
    """Read at most so many steps; return the outcome and how many were read."""
    for many in range(steps):
        outcome = read_step(reading)
        if outcome == WANT:
            return WANT, many
        if outcome is not None:
            return outcome, many + 1
    return ("on",), steps


def read(program, name, arguments, hand, steps):
    """Read at most so many steps; return the outcome, the cells in hand and how many were."""
    ask_reading(program, name, arguments)
    ask_hand(hand)
    ask_steps(steps, MOST_STEPS_READ)
    reading = begun(program, name, arguments, hand)
    outcome, many = read_on(reading, steps)
    return outcome, reading.hand, many
