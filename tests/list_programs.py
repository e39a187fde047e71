"""Random programs over lists of numbers: many of them have bills, some by fractions."""

import random

from tests.samples import LISTS, row


class ListWriter:
    """Writes the bodies of functions that take lists apart, make them and hand them on."""

    def __init__(self, rng, heads, makes):
        self.rng = rng
        self.heads = heads
        self.made = 0
        self.makes = makes

    def fresh(self):
        self.made += 1
        return f"v{self.made}"

    def finish(self, names):
        if not names:
            name = self.fresh()
            return ("make", name, "nil", (), ("end", name))
        step = ("end", names[0])
        for name in names[1:]:
            step = ("drop", name, step)
        return step

    def body(self, names, deep):
        able = [self.make, self.call, self.attempt, self.go]
        able = self.rng.sample(able, len(able))
        able.insert(self.rng.choice([0, 0, 1, 2]), self.take)
        for write in able if deep else []:
            step = write(names, deep)
            if step is not None:
                return step
        return self.finish(names)

    def take(self, names, deep):
        if not names:
            return None
        name, head, rest = self.rng.choice(names), self.fresh(), self.fresh()
        left = [own for own in names if own != name]
        ways = [("nil", (), self.finish(left)), ("cons", (head, rest), self.body(left + [rest], deep - 1))]
        return ("take", name, ways)

    def make(self, names, deep):
        if not names or not self.makes:
            return None
        self.makes -= 1
        name, x = self.rng.choice(names), self.fresh()
        left = [own for own in names if own != name]
        return ("make", x, "cons", ("n", name), self.body(left + [x], deep - 1))

    def some_call(self, names):
        function, many = self.rng.choice(self.heads)
        if len(names) < many:
            return None, None, None
        ys = self.rng.sample(names, many)
        return function, tuple(ys) + ("n",), [own for own in names if own not in ys]

    def call(self, names, deep):
        function, ys, left = self.some_call(names)
        if function is None:
            return None
        x = self.fresh()
        return ("call", x, function, ys, self.body(left + [x], deep - 1))

    def attempt(self, names, deep):
        function, ys, left = self.some_call(names)
        if function is None or self.rng.random() < 0.7:
            return None
        x, n = self.fresh(), self.fresh()
        return ("try", x, function, ys, self.body(left + [x], deep - 1), n, self.finish(left))

    def go(self, names, deep):
        function, ys, left = self.some_call(names)
        if function is None or left or self.rng.random() < 0.5:
            return None
        return ("go", function, ys)


def list_program(seed, many=4, deep=5, makes=3):
    """Return a random program of so many functions; the same for the same numbers."""
    rng = random.Random(seed)
    heads = [(f"f{number}", rng.choice([1, 1, 2])) for number in range(many)]
    functions = []
    for name, lists in heads:
        writer = ListWriter(rng, heads, makes)
        names = [f"p{number}" for number in range(lists)]
        body = writer.body(names, deep)
        functions.append((name, [(own, "list") for own in names] + [("n", "num")], "list", body))
    return ("program", LISTS, functions)


def list_arguments(rng, parameters):
    """Return random arguments of a function of such a program."""
    return [row(range(rng.randrange(5))) if kind == "list" else rng.randrange(5)
            for _, kind in parameters]
