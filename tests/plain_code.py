"""Other crowds, homes and rows, written as the document tells them, with a look at all pairs."""

from tests.plain_pairing import Numbered
from tests.plain_reading import binds, free, kept, uses


class PlainCode:
    """A function with a right pairing."""

    def __init__(self, function, pairs):
        self.body = Numbered(function[3])
        self.parameters = [name for name, _ in function[1]]
        self.pairs = pairs
        self.takes = {taken for _, taken in pairs}

    def behind(self, at, other):
        """Tell whether a step is another one or stands behind it."""
        return at == other or other in [own for own, _ in self.body.ways[at]]

    def held_into(self, at):
        return {taken for made, taken in self.pairs
                if taken != at and self.behind(at, taken) and self.behind(made, at)}

    def hollow(self, at):
        """Return the takes whose cells are empty as a step begins."""
        ahead, end = self.body.ways[at][-1]
        found = {taken for taken in self.held_into(ahead) if (ahead, taken) not in self.pairs}
        if ahead in self.takes and self.body.is_left(ahead, end):
            found.add(ahead)
        return found

    def arrivals(self, at):
        if at == 0:
            return []
        ahead, end = self.body.ways[at][-1]
        step = self.body.steps[ahead]
        if step[0] == "take":
            return list(step[2][end][1])
        if step[0] == "try":
            return [step[1] if end == 0 else step[5]]
        return binds(step)

    def bound(self):
        return self.parameters + [name for at in range(len(self.body.steps)) for name in self.arrivals(at)]

    def crowd(self, at):
        found = set(free(self.body.steps[at])) | set(self.arrivals(at))
        ahead = self.body.ways[at][-1][0]
        if self.body.steps[ahead][0] == "try":
            found |= set(kept(self.body.steps[ahead]))
        return found | {self.body.steps[taken][1] for taken in self.hollow(at)}

    def crowds(self):
        return [set(self.parameters)] + [self.crowd(at) for at in range(1, len(self.body.steps))]

    def homes(self, choose):
        """Return right homes; choose picks one of the registers that a name may have."""
        found = {name: number for number, name in enumerate(self.parameters)}
        for at in range(1, len(self.body.steps)):
            for name in self.arrivals(at):
                barred = {found[own] for own in self.crowd(at) if own in found}
                found[name] = choose([number for number in range(40) if number not in barred])
        return list(found.items())

    def are_homes(self, value):
        homes = dict(value)
        if [name for name, _ in value] != self.bound():
            return False
        if [homes[name] for name in self.parameters] != list(range(len(self.parameters))):
            return False
        if not all(0 <= number < 40 for number in homes.values()):
            return False
        return all(len({homes[name] for name in crowd}) == len(crowd) for crowd in self.crowds())

    def code(self, homes):
        """Return the rows, the places of steps told by their numbers, and then looked up."""
        self.home = dict(homes)
        rows, firsts = [], []
        for at, step in enumerate(self.body.steps):
            firsts.append(len(rows))
            if at:
                for taken in sorted(self.hollow(at) - self.held_into(at)):
                    rows.append(("free", self.home[self.body.steps[taken][1]]))
            rows.extend(self.step(at, step))
        return [placed(row, firsts) for row in rows], firsts

    def slots(self, names):
        return tuple(self.home[name] for name in names)

    def children(self, at):
        return [Step(own) for own, way in enumerate(self.body.ways) if way and way[-1][0] == at]

    def moves(self, names):
        return [("move", r, s) for r, s in plain_moves(
            [(number, self.home[name]) for number, name in enumerate(names)],
            1 + max([len(names)] + list(self.home.values())))]

    def step(self, at, step):
        head, ends = step[0], self.children(at)
        if head in ("num", "flag"):
            return [(head, self.home[step[1]], step[2])]
        if head == "deed":
            return [(head, self.home[step[1]], step[2], self.slots(step[3]))]
        if head in ("drop", "raise", "end"):
            return [("return" if head == "end" else head, self.home[step[1]])]
        if head in ("make", "keep"):
            tag = step[2] if head == "make" else step[3]
            for made, taken in self.pairs:
                if made == at:
                    hollow = self.home[self.body.steps[taken][1]]
                    return [("refill", self.home[step[1]], hollow, tag, self.slots(uses(step)))]
            return [("build", self.home[step[1]], tag, self.slots(uses(step)))]
        if head == "take":
            ways = tuple((tag, self.slots(names), end) for (tag, names, _), end in zip(step[2], ends))
            return [("part" if at in self.takes else "take", self.home[step[1]], ways)]
        if head == "test":
            return [("test", self.home[step[1]], ends[1])]
        return self.leap(at, step, ends)

    def leap(self, at, step, ends):
        head = step[0]
        if head == "go":
            return self.moves(step[2]) + [("jump", step[1])]
        if head == "usego":
            return self.moves(step[2] + (step[1],)) + [("enter", len(step[2]))]
        keeps = tuple(sorted(self.slots(kept(step))))
        if head == "try":
            first = ("handle", self.home[step[1]], ends[0], self.home[step[5]], ends[1], keeps)
        else:
            first = ("push", self.home[step[1]], ends[0], keeps)
        if head == "use":
            return [first] + self.moves(step[3] + (step[2],)) + [("enter", len(step[3]))]
        return [first] + self.moves(step[3]) + [("jump", step[2])]


class Step:
    """Stands in a row for the place of the first row of a step."""

    def __init__(self, at):
        self.at = at


def placed(part, firsts):
    if isinstance(part, Step):
        return firsts[part.at]
    return tuple(placed(own, firsts) for own in part) if isinstance(part, tuple) else part


def plain_moves(shuffle, spare):
    left = {r: s for r, s in shuffle if r != s}
    found = []
    while left:
        done = [r for r in left if r not in left.values()][:1]
        if done:
            s = left.pop(done[0])
            found.append((done[0], s))
            left = {r: done[0] if own == s else own for r, own in left.items()}
        else:
            first = next(iter(left))
            found.append((spare, first))
            left = {r: spare if own == first else own for r, own in left.items()}
    return found
