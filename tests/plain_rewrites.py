"""Other rewritings, written as the document tells them, over steps within one another.

They call themselves where the package walks, and look for everything anew.
"""

from tests.plain_papers import step_of
from tests.plain_reading import all_steps, binds, deed, ends, free, uses

PLAIN = ("num", "flag", "deed", "make", "keep", "drop")
RULES = ("last", "taken", "dropped", "tested", "reckoned", "dead", "inlined")


def with_ends(step, ends_behind):
    head = step[0]
    if head == "take":
        return ("take", step[1], [way[:2] + (end,) for way, end in zip(step[2], ends_behind)])
    if head == "try":
        return step[:4] + (ends_behind[0], step[5], ends_behind[1])
    if head == "test":
        return step[:2] + tuple(ends_behind)
    return step if not ends_behind else step[:-1] + (ends_behind[0],)


def renamed(step, names):
    """Return a step and all behind it with other names."""
    def name(own):
        return names.get(own, own)

    def row(own):
        return tuple(name(part) for part in own)
    head = step[0]
    if head == "take":
        return ("take", name(step[1]), [(tag, row(own), renamed(end, names)) for tag, own, end in step[2]])
    if head in ("num", "flag"):
        new = ("num" if head == "num" else "flag", name(step[1]), step[2], None)
    elif head in ("deed", "make", "call"):
        new = (head, name(step[1]), step[2], row(step[3]), None)
    elif head == "keep":
        new = ("keep", name(step[1]), step[2], step[3], row(step[4]), None)
    elif head == "use":
        new = ("use", name(step[1]), name(step[2]), row(step[3]), None)
    elif head == "try":
        new = ("try", name(step[1]), step[2], row(step[3]), None, name(step[5]), None)
    elif head == "test":
        new = ("test", name(step[1]), None, None)
    elif head == "drop":
        new = ("drop", name(step[1]), None)
    elif head == "go":
        new = ("go", step[1], row(step[2]))
    elif head == "usego":
        new = ("usego", name(step[1]), row(step[2]))
    else:
        new = (head, name(step[1]))
    return with_ends(new, [renamed(end, names) for end in ends(step)])


class Body:
    """A body of a program, with what rules ask about it."""

    def __init__(self, program, number):
        self.program = program
        self.name, self.parameters, self.answer, self.first = program[2][number]
        self.steps = all_steps(self.first)
        self.functions = {function[0]: function for function in program[2]}
        self.makers = {maker: (row[1], parts) for row in program[1] if row[0] == "choice"
                       for maker, parts in row[2]}
        self.kinds = dict(self.parameters)
        for step in self.steps:
            self.note_kinds(step)

    def note_kinds(self, step):
        head = step[0]
        if head == "take":
            for tag, names, _ in step[2]:
                self.kinds.update(zip(names, self.makers[tag][1]))
        elif head in ("num", "flag"):
            self.kinds[step[1]] = head
        elif head == "deed":
            flag = step[2] in ("less", "same", "both", "any", "not")
            self.kinds[step[1]] = "flag" if flag else "num"
        elif head == "make":
            self.kinds[step[1]] = self.makers[step[2]][0]
        elif head in ("call", "try"):
            self.kinds[step[1]] = self.functions[step[2]][2]
        elif head == "keep":
            self.kinds[step[1]] = step[2]
        elif head == "use":
            own = [row for row in self.program[1] if row[1] == self.kinds[step[2]]]
            self.kinds[step[1]] = own[0][3]
        if head == "try":
            self.kinds[step[5]] = "num"

    def owned(self, names):
        return [name for name in names if self.kinds[name] not in ("num", "flag")]

    def binder(self, name):
        return next((step for step in self.steps if name in binds(step)), ("parameter",))


def steps_between(step, name):
    """Return the plain steps from one on, and the first one that uses a name, or None."""
    between = []
    while name not in uses(step):
        if step[0] not in PLAIN:
            return between, None
        between.append(step)
        step = step[-1]
    return between, step


def chained(steps, last):
    for step in steps[::-1]:
        last = step[:-1] + (last,)
    return last


def rule_last(body, step):
    if step[0] not in ("call", "use") or step[4] != ("end", step[1]):
        return None
    return ("go" if step[0] == "call" else "usego", step[2], step[3])


def rule_taken(body, step):
    if step[0] != "make":
        return None
    between, user = steps_between(step[4], step[1])
    if user is None or user[0] != "take":
        return None
    names, end = next((names, end) for tag, names, end in user[2] if tag == step[2])
    return chained(between, renamed(end, dict(zip(names, step[3]))))


def rule_dropped(body, step):
    if step[0] not in ("make", "keep") or len(body.owned(uses(step))) > 2:
        return None
    between, user = steps_between(step[-1], step[1])
    if user is None or user[0] != "drop":
        return None
    return chained(between + [("drop", name, None) for name in body.owned(uses(step))], user[2])


def rule_tested(body, step):
    if step[0] != "test" or body.binder(step[1])[0] != "flag":
        return None
    return step[2] if body.binder(step[1])[2] else step[3]


def rule_reckoned(body, step):
    if step[0] != "deed" or any(body.binder(name)[0] not in ("num", "flag") for name in step[3]):
        return None
    told = deed(step[2], [body.binder(name)[2] for name in step[3]])
    return ("flag" if isinstance(told, bool) else "num", step[1], told, step[4])


def rule_dead(body, step):
    if step[0] not in ("num", "flag", "deed") or any(step[1] in uses(own) for own in body.steps):
        return None
    return step[-1]


def bound_in_order(step):
    """Return the names bound in a body in the order in which they are bound."""
    if step[0] == "take":
        return [name for _, names, end in step[2] for name in list(names) + bound_in_order(end)]
    if step[0] == "try":
        return [step[1]] + bound_in_order(step[4]) + [step[5]] + bound_in_order(step[6])
    return binds(step) + [name for end in ends(step) for name in bound_in_order(end)]


def rule_inlined(body, step):
    if step[0] != "call" or step[2] == body.name:
        return None
    _, parameters, _, inner = body.functions[step[2]]
    heads = [own[0] for own in all_steps(inner)]
    kept = body.owned([name for name in free(step[4]) if name != step[1]])
    if sum(head in ("end", "go", "usego") for head in heads) != 1:
        return None
    if "raise" in heads and len(kept) > 1:
        return None
    own = [name for name, _ in parameters]
    names, taken, number = dict(zip(own, step[3])), set(body.kinds), 0
    for name in bound_in_order(inner):
        while f"w{number}" in taken:
            number += 1
        names[name] = f"w{number}"
        taken.add(f"w{number}")
    return put_in(renamed(inner, names), step[1], step[4], kept)


def put_in(step, name, rest, kept):
    head = step[0]
    if head == "end":
        return renamed(rest, {name: step[1]})
    if head in ("go", "usego"):
        return ("call" if head == "go" else "use", name, step[1], step[2], rest)
    if head == "raise":
        return chained([("drop", own, None) for own in kept], step)
    return with_ends(step, [put_in(end, name, rest, kept) for end in ends(step)])


def replaced(step, place, new):
    if not place:
        return new
    behind = ends(step)
    behind[place[0]] = replaced(behind[place[0]], place[1:], new)
    return with_ends(step, behind)


def plain_rewritten(program, rule, place):
    """Return what comes of a rewriting, None if there is none."""
    body = Body(program, place[1])
    new = globals()["rule_" + rule](body, step_of(program, place))
    if new is None:
        return None
    first = replaced(body.first, place[3:], new)
    if len(all_steps(first)) > 400:
        return None
    functions = list(program[2])
    functions[place[1]] = functions[place[1]][:3] + (first,)
    return (program[0], program[1], functions)


def all_places(program):
    found = []

    def walk(place, step):
        found.append(place)
        for number, end in enumerate(ends(step)):
            walk(place + (number,), end)
    for number, function in enumerate(program[2]):
        walk((1, number, 0), function[3])
    return found


def plain_rewritings(program):
    places = all_places(program)
    return [(rule, place) for rules in (RULES[:-1], RULES[-1:]) for place in places for rule in rules
            if plain_rewritten(program, rule, place) is not None]


def plain_passed(program):
    papers = []
    while True:
        found = next(((rule, place) for place in all_places(program) for rule in RULES[:-1]
                      if plain_rewritten(program, rule, place) is not None), None)
        if found is None:
            return program, papers
        papers.append(found)
        program = plain_rewritten(program, *found)
