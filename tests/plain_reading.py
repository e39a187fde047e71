"""Another reading and other lists of names, written as the document tells them.

They call themselves where the package walks: they are for short bodies and few calls.
"""


class Wanted(Exception):
    pass


class Stopped(Exception):
    pass


class Fault(Exception):
    def __init__(self, number):
        self.number = number


def ends(step):
    head = step[0]
    if head == "take":
        return [way[2] for way in step[2]]
    if head == "try":
        return [step[4], step[6]]
    if head == "test":
        return [step[2], step[3]]
    return [] if head in ("go", "usego", "raise", "end") else [step[-1]]


def uses(step):
    head = step[0]
    if head in ("deed", "make", "call", "try"):
        return list(step[3])
    if head == "keep":
        return list(step[4])
    if head == "use":
        return [step[2]] + list(step[3])
    if head == "go":
        return list(step[2])
    if head == "usego":
        return [step[1]] + list(step[2])
    return [] if head in ("num", "flag") else [step[1]]


def binds(step):
    head = step[0]
    if head == "take":
        return [name for way in step[2] for name in way[1]]
    if head == "try":
        return [step[1], step[5]]
    return [step[1]] if head in ("num", "flag", "deed", "make", "call", "keep", "use") else []


def all_steps(step):
    return [step] + [inner for end in ends(step) for inner in all_steps(end)]


def free(step):
    steps = all_steps(step)
    bound = {name for inner in steps for name in binds(inner)}
    return sorted({name for inner in steps for name in uses(inner)} - bound)


def kept(step):
    if step[0] in ("call", "use"):
        return sorted(set(free(step[4])) - {step[1]})
    if step[0] == "try":
        return sorted((set(free(step[4])) - {step[1]}) | (set(free(step[6])) - {step[5]}))
    return []


def cost(step):
    many = len(kept(step))
    if step[0] == "try":
        return (many + 4) // 3
    return max(1, (many + 2) // 3) if step[0] in ("call", "use") else 0


def cells(thing):
    if isinstance(thing, tuple):
        return (1 if thing[2] else 0) + sum(cells(part) for part in thing[2])
    return 0


class Plain:
    """A reading that calls itself for each call."""

    def __init__(self, program, hand, steps):
        self.functions = {function[0]: function for function in program[2]}
        self.hand = hand
        self.steps = steps
        self.many = 0

    def take(self, many):
        if many > self.hand:
            raise Wanted()
        self.hand -= many

    def run(self, name, arguments):
        _, parameters, _, step = self.functions[name]
        bound = dict(zip([own for own, _ in parameters], arguments))
        while True:
            if self.many == self.steps:
                raise Stopped()
            told = self.step(step, bound)
            self.many += told[0] not in ("call", "use", "try", "called")
            if told[0] == "value":
                return told[1]
            if told[0] == "fault":
                raise Fault(told[1])
            if told[0] == "go":
                _, parameters, _, step = self.functions[told[1]]
                bound = dict(zip([own for own, _ in parameters], told[2]))
            else:
                step = told[1]

    def called(self, step, bound, name, arguments, back):
        keeps, costs = kept(step), cost(step)
        self.take(costs)
        self.hand += back
        self.many += 1
        try:
            bound[step[1]] = self.run(name, arguments)
        except Fault as fault:
            self.hand += costs
            if step[0] == "try":
                bound[step[5]] = fault.number
                return "called", step[6]
            self.hand += sum(cells(bound[own]) for own in keeps)
            raise
        self.hand += costs
        return "called", step[4]

    def step(self, step, bound):
        head = step[0]
        things = [bound[name] for name in uses(step)]
        if head in ("num", "flag"):
            bound[step[1]] = step[2]
        elif head == "deed":
            bound[step[1]] = deed(step[2], things)
        elif head in ("make", "keep"):
            sort, tag = ("node", step[2]) if head == "make" else ("kept", step[3])
            self.take(1 if things else 0)
            bound[step[1]] = (sort, tag, tuple(things))
        elif head == "take":
            _, tag, parts = things[0]
            self.hand += 1 if parts else 0
            way = next(own for own in step[2] if own[0] == tag)
            bound.update(zip(way[1], parts))
            return "on", way[2]
        elif head in ("call", "try"):
            return self.called(step, bound, step[2], things, 0)
        elif head == "go":
            return "go", step[1], things
        elif head == "use":
            _, name, parts = things[0]
            return self.called(step, bound, name, list(parts) + things[1:], 1 if parts else 0)
        elif head == "usego":
            _, name, parts = things[0]
            self.hand += 1 if parts else 0
            return "go", name, list(parts) + things[1:]
        elif head == "drop":
            self.hand += cells(things[0])
        elif head == "test":
            return "on", step[2] if things[0] else step[3]
        else:
            return "value" if head == "end" else "fault", things[0]
        return "on", step[-1]


def deed(sign, things):
    if sign == "not":
        return not things[0]
    one, other = things
    told = {
        "plus": lambda: one + other, "minus": lambda: one - other, "times": lambda: one * other,
        "over": lambda: one // other if other else 0,
        "rest": lambda: one - other * (one // other if other else 0),
        "less": lambda: one < other, "same": lambda: one == other,
        "both": lambda: one and other, "any": lambda: one or other}[sign]()
    if isinstance(told, bool):
        return told
    told %= 2 ** 64
    return told - 2 ** 64 if told >= 2 ** 63 else told


def plain_read(program, name, arguments, hand, steps):
    plain = Plain(program, hand, steps)
    try:
        outcome = ("value", plain.run(name, arguments))
    except Fault as fault:
        outcome = ("fault", fault.number)
    except Wanted:
        outcome = ("want",)
    except Stopped:
        outcome = ("on",)
    return outcome, plain.hand, plain.many
