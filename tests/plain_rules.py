"""Other unknowns, inequalities, funds and slacks, written as the document tells them.

Unknowns go by their names here; sums are Fractions. They are for short bodies.
"""

from fractions import Fraction

from tests.plain_papers import step_of
from tests.plain_reading import cost, ends


def choices(program):
    return {row[1]: row[2] for row in program[1] if row[0] == "choice"}


def reached(program, kind):
    found, makers = [kind], choices(program)
    for own in found:
        for _, parts in makers[own]:
            found.extend([part for part in parts if part in makers and part not in found])
    return [maker for own in makers for maker, _ in makers[own] if own in found]


def steps_at(step, place):
    """Return (place, step) of a step and of those behind it, in the order of places."""
    found = [(place, step)]
    for number, end in enumerate(ends(step)):
        found += steps_at(end, place + (number,))
    return found


def bodies(program):
    return [(number, function, steps_at(function[3], (1, number, 0)))
            for number, function in enumerate(program[2])]


def signature_names(program, start, wanted, answer):
    makers = choices(program)
    found = [start + ("argument", number, maker) for number, kind in enumerate(wanted)
             if kind in makers for maker in reached(program, kind)]
    if answer in makers:
        found += [start + ("answer", maker) for maker in reached(program, answer)]
    return found + [start + ("wants",), start + ("leaves",), start + ("fault",)]


def plain_unknowns(program):
    found = []
    for row in program[1]:
        if row[0] == "calls":
            found += signature_names(program, ("calls", row[1]), row[2], row[3])
    for name, parameters, answer, _ in program[2]:
        found += signature_names(program, ("function", name), [kind for _, kind in parameters], answer)
    kind_of = {maker: kind for kind, makers in choices(program).items() for maker, _ in makers}
    for _, _, steps in bodies(program):
        for place, step in steps:
            if step[0] == "make":
                found += [("make", place, maker) for maker in reached(program, kind_of[step[2]])]
    return found


class Walk:
    """A walk through one body: of each name its kind and table, of each step its hand."""

    def __init__(self, program, number):
        self.program = program
        self.makers = choices(program)
        self.kind_of = {maker: kind for kind, rows in self.makers.items() for maker, _ in rows}
        self.parts = {maker: parts for rows in self.makers.values() for maker, parts in rows}
        self.calls = {row[1]: row for row in program[1] if row[0] == "calls"}
        self.functions = {function[0]: function for function in program[2]}
        name, parameters, answer, body = program[2][number]
        self.start, self.answer = ("function", name), answer
        self.kinds, self.tables, self.hands, self.found = {}, {}, {}, []
        for at, (own, kind) in enumerate(parameters):
            self.bind(own, kind, self.start + ("argument", at))
        self.walk((1, number, 0), body, {self.start + ("wants",): 1}, 0)

    def bind(self, name, kind, table):
        self.kinds[name] = kind
        if kind in self.makers:
            self.tables[name] = table

    def ask(self, place, counts, least):
        self.found.append((place, {key: often for key, often in counts.items() if often}, least))

    def hand_on(self, place, kind, table, wanted):
        if kind in self.makers:
            for maker in reached(self.program, kind):
                self.ask(place, total({table + (maker,): 1}, {wanted + (maker,): -1}), 0)

    def hand_names(self, place, names, start):
        for at, name in enumerate(names):
            self.hand_on(place, self.kinds[name], self.tables.get(name), start + ("argument", at))

    def called(self, step):
        """Return the start of the signature by which a step calls, its answer and its arguments."""
        head = step[0]
        if head in ("use", "usego"):
            kind = self.kinds[step[2] if head == "use" else step[1]]
            return ("calls", kind), self.calls[kind][3], step[3] if head == "use" else step[2]
        name = step[1] if head == "go" else step[2]
        return ("function", name), self.functions[name][2], step[2] if head == "go" else step[3]

    def walk(self, place, step, hand, whole):
        self.hands[place] = (dict(hand), whole)
        getattr(self, "walk_" + step[0])(place, step, hand, whole)

    def plainly(self, place, step, hand, whole, kind=None):
        if kind is not None:
            self.bind(step[1], kind, None)
        self.walk(place + (0,), step[-1], hand, whole)

    def walk_num(self, place, step, hand, whole):
        self.plainly(place, step, hand, whole, "num")

    def walk_flag(self, place, step, hand, whole):
        self.plainly(place, step, hand, whole, "flag")

    def walk_deed(self, place, step, hand, whole):
        flag = step[2] in ("less", "same", "both", "any", "not")
        self.plainly(place, step, hand, whole, "flag" if flag else "num")

    def walk_drop(self, place, step, hand, whole):
        self.plainly(place, step, hand, whole)

    def walk_test(self, place, step, hand, whole):
        self.walk(place + (0,), step[2], hand, whole)
        self.walk(place + (1,), step[3], hand, whole)

    def walk_make(self, place, step, hand, whole):
        _, name, maker, names, rest = step
        table, weight = ("make", place), 1 if names else 0
        for own in names:
            self.hand_on(place, self.kinds[own], self.tables.get(own), table)
        left = total(hand, {table + (maker,): -1})
        self.ask(place, left, weight - whole)
        self.bind(name, self.kind_of[maker], table)
        self.walk(place + (0,), rest, left, whole - weight)

    def walk_take(self, place, step, hand, whole):
        table = self.tables[step[1]]
        for number, (maker, names, end) in enumerate(step[2]):
            for own, kind in zip(names, self.parts[maker]):
                self.bind(own, kind, table)
            more = total(hand, {table + (maker,): 1})
            self.walk(place + (number,), end, more, whole + (1 if names else 0))

    def walk_call(self, place, step, hand, whole):
        start, answer, names = self.called(step)
        self.hand_names(place, names, start)
        less = total(hand, {start + ("wants",): -1})
        self.ask(place, less, cost(step) - whole)
        self.ask(place, total(less, {start + ("fault",): 1}, {self.start + ("fault",): -1}), -whole)
        self.bind(step[1], answer, start + ("answer",))
        self.walk(place + (0,), step[4], total(less, {start + ("leaves",): 1}), whole)

    walk_use = walk_call

    def walk_try(self, place, step, hand, whole):
        start, answer, names = self.called(step)
        self.hand_names(place, names, start)
        less = total(hand, {start + ("wants",): -1})
        self.ask(place, less, cost(step) - whole)
        self.bind(step[1], answer, start + ("answer",))
        self.walk(place + (0,), step[4], total(less, {start + ("leaves",): 1}), whole)
        self.bind(step[5], "num", None)
        self.walk(place + (1,), step[6], total(less, {start + ("fault",): 1}), whole)

    def walk_go(self, place, step, hand, whole):
        start, answer, names = self.called(step)
        self.hand_names(place, names, start)
        less = total(hand, {start + ("wants",): -1})
        self.ask(place, less, -whole)
        self.hand_on(place, answer, start + ("answer",), self.start + ("answer",))
        for word in ("leaves", "fault"):
            self.ask(place, total(less, {start + (word,): 1}, {self.start + (word,): -1}), -whole)

    walk_usego = walk_go

    def walk_keep(self, place, step, hand, whole):
        _, name, kind, function, names, rest = step
        own, wanted = ("function", function), ("calls", kind)
        self.hand_names(place, names, own)
        for at, part in enumerate(self.calls[kind][2]):
            self.hand_on(place, part, wanted + ("argument", at), own + ("argument", at + len(names)))
        self.hand_on(place, self.calls[kind][3], own + ("answer",), wanted + ("answer",))
        self.ask(place, {wanted + ("wants",): 1, own + ("wants",): -1}, 0)
        self.ask(place, {own + ("leaves",): 1, wanted + ("leaves",): -1}, 0)
        self.ask(place, {own + ("fault",): 1, wanted + ("fault",): -1}, 0)
        weight = 1 if names else 0
        self.ask(place, hand, weight - whole)
        self.bind(name, kind, None)
        self.walk(place + (0,), rest, hand, whole - weight)

    def walk_raise(self, place, step, hand, whole):
        self.ask(place, total(hand, {self.start + ("fault",): -1}), -whole)

    def walk_end(self, place, step, hand, whole):
        self.hand_on(place, self.kinds[step[1]], self.tables.get(step[1]), self.start + ("answer",))
        self.ask(place, total(hand, {self.start + ("leaves",): -1}), -whole)


def total(*sums):
    found = {}
    for own in sums:
        for key, often in own.items():
            found[key] = found.get(key, 0) + often
    return found


def plain_inequalities(program):
    numbers = {name: number for number, name in enumerate(plain_unknowns(program))}
    return [(place, sorted((numbers[key], often) for key, often in counts.items()), least)
            for number in range(len(program[2])) for place, counts, least in Walk(program, number).found]


class Told:
    """What a bill tells, with unknowns by their names."""

    def __init__(self, program, bill):
        self.program = program
        self.rates = {name: Fraction(*own) for name, own in zip(plain_unknowns(program), bill)}
        self.walks = [Walk(program, number) for number in range(len(program[2]))]

    def worth(self, counts, whole=0):
        return sum((self.rates[key] * often for key, often in counts.items()), Fraction(whole))

    def fund(self, thing, table):
        if not isinstance(thing, tuple):
            return 0
        sort, tag, parts = thing
        if sort == "node":
            return self.rates[table + (tag,)] + sum(self.fund(part, table) for part in parts)
        return sum(self.fund(part, ("function", tag, "argument", at)) for at, part in enumerate(parts))

    def bill_of(self, name, values):
        start = ("function", name)
        return self.rates[start + ("wants",)] + sum(
            self.fund(value, start + ("argument", at)) for at, value in enumerate(values))

    def funds(self, place, pairs):
        return sum(self.fund(thing, self.walks[place[1]].tables.get(name)) for name, thing in pairs)

    def hand(self, place):
        return self.worth(*self.walks[place[1]].hands[place])

    def beyond(self, place):
        """Return by how much the hand is more than what is wanted by the step at a place."""
        step = step_of(self.program, place)
        return self.hand(place) - self.rates[self.walks[place[1]].called(step)[0] + ("wants",)]

    def asked(self, state, goes):
        place, pairs, frames, _ = state
        here = self.hand(place) + self.funds(place, pairs) + sum(goes)
        for at, names in frames:
            here += self.beyond(at) - cost(step_of(self.program, at)) + self.funds(at, names)
        return here

    def slacks(self, states):
        """Return the slacks of the states of a trace; of each function begun its goes are summed."""
        found, goes = [], [Fraction(0)]
        for number, state in enumerate(states):
            found.append(state[3] - self.asked(state, goes))
            if number + 1 == len(states):
                break
            head = step_of(self.program, state[0])[0]
            if head in ("call", "use", "try"):
                goes.append(Fraction(0))
            elif head in ("go", "usego"):
                goes[-1] += self.beyond(state[0])
            else:
                del goes[len(states[number + 1][2]) + 1:]
        return found
