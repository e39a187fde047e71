"""Random right listings, whose rows are chosen as a run comes to them, so that few are stuck."""

import copy

from tests.plain_machine import PlainMachine
from tests.samples import KINDS

SLOTS = (0, 1, 2, 3, 4, 5)
MAKERS = [maker for kind in KINDS if kind[0] == "choice" for maker in kind[2]]
SIGNS = {"plus": 2, "minus": 2, "less": 2, "same": 2, "both": 2, "not": 1}


class Rows:

    def __init__(self, rng, program, length):
        self.rng = rng
        self.program = program
        self.heads = [(function[0], len(function[1])) for function in program[2]]
        self.length = length

    def slot(self):
        return self.rng.choice(SLOTS)

    def slots(self, many):
        return tuple(self.slot() for _ in range(many))

    def unlike(self, many, barred=()):
        return tuple(self.rng.sample([slot for slot in SLOTS if slot not in barred], many))

    def place(self):
        return self.rng.randrange(self.length)

    def tag(self):
        """Return a tag and with how many parts it may stand."""
        if self.rng.random() < 0.6:
            maker, parts = self.rng.choice(MAKERS)
            return maker, len(parts)
        name, many = self.rng.choice(self.heads)
        return name, self.rng.randrange(min(4, many) + 1)

    def ways(self):
        """Return ways for all constructors and functions, in any order."""
        tags = [(maker, len(parts)) for maker, parts in MAKERS]
        tags += [(name, self.rng.randrange(min(4, many) + 1)) for name, many in self.heads]
        self.rng.shuffle(tags)
        return tuple((tag, self.unlike(many), self.place()) for tag, many in tags)

    def row(self):
        word = self.rng.choice("num flag move deed deed build build build take take part part part refill refill refill free free"
                               " drop test push push handle jump enter enter return raise".split())
        r, s = self.slot(), self.slot()
        if word == "num":
            return word, r, self.rng.choice([0, 1, -2 ** 63, 7])
        if word == "flag":
            return word, r, self.rng.random() < 0.5
        if word == "move":
            return word, r, s
        if word == "deed":
            sign = self.rng.choice(list(SIGNS))
            return word, r, sign, self.slots(SIGNS[sign])
        if word == "build":
            tag, many = self.tag()
            return word, r, tag, self.slots(many)
        if word in ("take", "part"):
            return word, s, self.ways()
        if word == "refill":
            tag, many = self.tag()
            return (word, r, s, tag, self.slots(many)) if many else ("free", s)
        if word == "test":
            return word, s, self.place()
        if word == "push":
            return word, r, self.place(), self.unlike(self.rng.randrange(6), (r,))
        if word == "handle":
            n = self.slot()
            return word, r, self.place(), n, self.place(), self.unlike(self.rng.randrange(5), (r, n))
        if word == "jump":
            return word, self.rng.choice(self.heads)[0]
        if word == "enter":
            return word, self.rng.randrange(4)
        return word, s


def guided_listing(rng, program, name, arguments, cells, steps):
    """Return a right listing, and how its run goes on for so many rows."""
    maker = Rows(rng, program, rng.randrange(4, 30))
    listing = [(function[0], [None] * maker.length) for function in program[2]]
    machine = PlainMachine(program, listing, name, arguments, cells)
    for _ in range(steps):
        if machine.outcome is not None or machine.at == maker.length:
            break
        rows = machine.rows[machine.name]
        if rows[machine.at] is None:
            rows[machine.at] = able_row(rng, maker, machine)
        machine.step()
    full = [(own, [maker.row() if row is None else row for row in rows]) for own, rows in listing]
    return full


def able_row(rng, maker, machine):
    """Return a row that is mostly not stuck where a machine stands, and mostly doesn't end the run."""
    name, at = machine.name, machine.at
    for _ in range(40):
        row = maker.row()
        trial = copy.copy(machine)
        for part in ("free", "slots", "marks", "contents", "links"):
            setattr(trial, part, copy.copy(getattr(machine, part)))
        trial.rows = dict(machine.rows)
        trial.rows[name] = list(machine.rows[name])
        trial.rows[name][at] = row
        # A jump too soon leads round and round.
        soon = row[0] == "jump" and at < 6
        if (trial.step() is None and not soon) or rng.random() < 0.02:
            return row
    return maker.row()
