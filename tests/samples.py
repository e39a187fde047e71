"""Programs, things and spoilt values that several tests use."""

import random

from cellbills import errors

LISTS = [("choice", "list", [("nil", []), ("cons", ["num", "list"])])]
KINDS = LISTS + [
    ("choice", "tree", [("leaf", ["flag"]), ("fork", ["tree", "list", "tree"]), ("hold", ["step"])]),
    ("calls", "step", ["num"], "num"),
    ("calls", "join", ["list"], "list"),
    ("calls", "plant", [], "tree"),
]
NIL = ("node", "nil", ())
EMPTY = ("program", [], [])

# One of each sort of value that is next to nothing the package works with.
ODD = [None, True, False, 0, -1, 5, 10 ** 29, "", "a", "num", "Word", [], (), {}, [[]], ((),),
       {"a": 1}, [None], (None,), ["a"], ("a",), [("a",)], ("program",), ("program", [], []),
       ("node", "nil", ()), errors.BillError(), errors.InvalidName([1]), [{"a": [()]}],
       ("choice", "a", []), (1, 0, 0), ("end", "a"), (((((("deep",),),),),),)]


def row(numbers):
    """Return the list thing with these numbers."""
    thing = NIL
    for number in reversed(numbers):
        thing = ("node", "cons", (number, thing))
    return thing


def chain(many, last=("end", "a")):
    """Return a body of so many steps, each but the last one a num."""
    step = last
    for number in range(many - 1):
        step = ("num", f"x{number}", number, step)
    return step


def one_function(body, parameters=(), answer="num", kinds=(), name="f"):
    """Return a program of one function."""
    return ("program", list(kinds), [(name, list(parameters), answer, body)])


def lists_within(value):
    """Return all lists within a value, each as often as it is come to."""
    found, waiting = [], [value]
    while waiting:
        part = waiting.pop()
        if isinstance(part, list):
            found.append(part)
        if isinstance(part, (list, tuple)):
            waiting.extend(part)
    return found


def share_lists(one, other):
    """Tell whether a list of one value stands in another, or twice in the other one."""
    ids = [id(part) for part in lists_within(other)]
    return len(ids) != len(set(ids)) or bool({id(part) for part in lists_within(one)} & set(ids))


class Writer:
    """Writes one random body, step by step, so that it is right."""

    def __init__(self, rng, heads, answer):
        self.rng = rng
        self.heads = heads
        self.answer = answer
        self.made = 0
        self.fuel = rng.randrange(1, 25)

    def fresh(self):
        self.made += 1
        return f"v{self.made}"

    def pick(self, scope, kinds):
        """Return names of these kinds, or None; an owned one at most once."""
        left, found = list(scope), []
        for kind in kinds:
            able = [pair for pair in left if pair[1] == kind]
            if not able:
                return None
            pair = self.rng.choice(able)
            found.append(pair[0])
            if kind not in ("num", "flag"):
                left.remove(pair)
        return tuple(found)

    def less(self, scope, names):
        return [pair for pair in scope if pair[0] not in names or pair[1] in ("num", "flag")]

    def finish(self, scope):
        """Return a step that ends the way, ahead of it what has to be dropped."""
        owned = [pair for pair in scope if pair[1] not in ("num", "flag")]
        able = [name for name, kind in scope if kind == self.answer]
        answer = self.rng.choice(able) if able else None
        fail = answer is None or self.rng.random() < 0.1
        if fail:
            nums = [name for name, kind in scope if kind == "num"]
            name = self.rng.choice(nums) if nums else self.fresh()
            last = ("raise", name) if nums else ("num", name, 7, ("raise", name))
        else:
            last = ("end", answer)
        for name, _ in owned:
            if fail or name != answer:
                last = ("drop", name, last)
        return last

    def body(self, scope):
        if self.fuel <= 0 or self.rng.random() < 0.04:
            return self.finish(scope)
        self.fuel -= 1
        for _ in range(40):
            step = self.step(scope, self.rng.choice(
                "num flag deed make take call go keep use usego drop try test".split()))
            if step is not None:
                return step
        return self.finish(scope)

    def bind(self, scope, used, kind, build):
        name = self.fresh()
        return build(name, self.body(self.less(scope, used) + [(name, kind)]))

    def step(self, scope, head):
        return getattr(self, "write_" + head)(scope)

    def write_num(self, scope):
        number = self.rng.choice([0, 1, -1, 5, 2 ** 63 - 1, -2 ** 63])
        return self.bind(scope, (), "num", lambda x, rest: ("num", x, number, rest))

    def write_flag(self, scope):
        flag = self.rng.random() < 0.5
        return self.bind(scope, (), "flag", lambda x, rest: ("flag", x, flag, rest))

    def write_deed(self, scope):
        sign, wanted, gives = self.rng.choice([
            ("plus", ["num", "num"], "num"), ("minus", ["num", "num"], "num"),
            ("times", ["num", "num"], "num"), ("over", ["num", "num"], "num"),
            ("rest", ["num", "num"], "num"), ("less", ["num", "num"], "flag"),
            ("same", ["num", "num"], "flag"), ("both", ["flag", "flag"], "flag"),
            ("any", ["flag", "flag"], "flag"), ("not", ["flag"], "flag")])
        ys = self.pick(scope, wanted)
        if ys is None:
            return None
        return self.bind(scope, ys, gives, lambda x, rest: ("deed", x, sign, ys, rest))

    def write_make(self, scope):
        kind = self.rng.choice([own for own in KINDS if own[0] == "choice"])
        maker, parts = self.rng.choice(kind[2])
        ys = self.pick(scope, parts)
        if ys is None:
            return None
        return self.bind(scope, ys, kind[1], lambda x, rest: ("make", x, maker, ys, rest))

    def write_take(self, scope):
        able = [(name, own) for name, kind in scope for own in KINDS if own[:2] == ("choice", kind)]
        if not able:
            return None
        name, kind = self.rng.choice(able)
        ways = []
        for maker, parts in kind[2]:
            names = tuple(self.fresh() for _ in parts)
            ways.append((maker, names, self.body(self.less(scope, (name,)) + list(zip(names, parts)))))
        return ("take", name, ways)

    def some_call(self, scope):
        name, kinds, answer = self.rng.choice(self.heads)
        return name, self.pick(scope, kinds), answer

    def write_call(self, scope):
        f, ys, answer = self.some_call(scope)
        if ys is None:
            return None
        return self.bind(scope, ys, answer, lambda x, rest: ("call", x, f, ys, rest))

    def write_go(self, scope):
        f, ys, answer = self.some_call(scope)
        if ys is None or answer != self.answer or self.rng.random() < 0.7:
            return None
        step = ("go", f, ys)
        for name, kind in self.less(scope, ys):
            if kind not in ("num", "flag"):
                step = ("drop", name, step)
        return step

    def write_try(self, scope):
        f, ys, answer = self.some_call(scope)
        if ys is None:
            return None
        x, n, left = self.fresh(), self.fresh(), self.less(scope, ys)
        return ("try", x, f, ys, self.body(left + [(x, answer)]), n, self.body(left + [(n, "num")]))

    def write_keep(self, scope):
        kind = self.rng.choice([own for own in KINDS if own[0] == "calls"])
        able = [head for head in self.heads if head[2] == kind[3]
                and head[1][len(head[1]) - len(kind[2]):] == kind[2]
                and len(kind[2]) <= len(head[1]) <= len(kind[2]) + 4]
        if not able:
            return None
        f, kinds, _ = self.rng.choice(able)
        ys = self.pick(scope, kinds[:len(kinds) - len(kind[2])])
        if ys is None:
            return None
        return self.bind(scope, ys, kind[1], lambda x, rest: ("keep", x, kind[1], f, ys, rest))

    def some_use(self, scope):
        able = [(name, own) for name, kind in scope for own in KINDS if own[:2] == ("calls", kind)]
        if not able:
            return None, None, None
        name, kind = self.rng.choice(able)
        return name, self.pick(self.less(scope, (name,)), kind[2]), kind[3]

    def write_use(self, scope):
        g, ys, answer = self.some_use(scope)
        if ys is None:
            return None
        return self.bind(scope, ys + (g,), answer, lambda x, rest: ("use", x, g, ys, rest))

    def write_usego(self, scope):
        g, ys, answer = self.some_use(scope)
        if ys is None or answer != self.answer:
            return None
        step = ("usego", g, ys)
        for name, kind in self.less(scope, ys + (g,)):
            if kind not in ("num", "flag"):
                step = ("drop", name, step)
        return step

    def write_drop(self, scope):
        owned = [name for name, kind in scope if kind not in ("num", "flag")]
        if not owned:
            return None
        name = self.rng.choice(owned)
        return ("drop", name, self.body(self.less(scope, (name,))))

    def write_test(self, scope):
        flags = [name for name, kind in scope if kind == "flag"]
        if not flags:
            return None
        return ("test", self.rng.choice(flags), self.body(scope), self.body(scope))


def random_program(seed):
    """Return a random right program; the same for the same number."""
    rng = random.Random(seed)
    names = ["num", "flag"] + [kind[1] for kind in KINDS]
    # The kinds declared can all be kept by one of these.
    heads = [("fa", ["num"], "num"), ("fb", ["list", "list"], "list"), ("fc", ["num", "flag"], "tree"),
             ("fd", ["tree", "num"], "num"), ("fe", [], "tree")]
    for number in range(rng.randrange(3)):
        kinds = [rng.choice(names) for _ in range(rng.randrange(5))]
        heads.append((f"g{number}", kinds, rng.choice(names)))
    functions = []
    for name, kinds, answer in heads:
        writer = Writer(rng, heads, answer)
        parameters = [(writer.fresh(), kind) for kind in kinds]
        functions.append((name, parameters, answer, writer.body(parameters)))
    return ("program", list(KINDS), functions)


def random_thing(rng, program, kind, deep=4):
    """Return a random thing of a kind of a random program."""
    if kind == "num":
        return rng.choice([0, 1, 2, -3])
    if kind == "flag":
        return rng.random() < 0.5
    declaration = next(own for own in KINDS if own[1] == kind)
    if declaration[0] == "choice":
        maker, parts = declaration[2][0] if deep == 0 else rng.choice(declaration[2])
        return ("node", maker, tuple(random_thing(rng, program, own, max(0, deep - 1)) for own in parts))
    function = {"step": "fa", "join": "fb", "plant": "fe"}[kind]
    if kind == "step" and rng.random() < 0.5 and deep:
        return ("kept", "fd", (random_thing(rng, program, "tree", deep - 1),))
    if kind == "join":
        return ("kept", function, (random_thing(rng, program, "list", max(0, deep - 1)),))
    return ("kept", function, ())
