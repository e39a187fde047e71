"""Random right texts with the tuples that they tell, made from the parts, not from the tokens."""

import random

from tests.grammar_table import RESERVED

LEVELS = {"any": 0, "both": 1, "not": 2, "less": 3, "same": 3, "plus": 4, "minus": 4, "times": 5,
          "over": 5, "rest": 5}
SIGNS = {"any": "|", "both": "&", "less": "<", "same": "=", "plus": "+", "minus": "-", "times": "*",
         "over": "/", "rest": "~"}
WORDS = ["a", "b", "c", "e", "x", "y", "k1", "cons", "nil", "list", "f", "g"]


class Slot:
    """Stands in the place of a name that is not given yet."""


class Texts:
    """Makes random functions."""

    def __init__(self, seed):
        self.rng = random.Random(seed)
        self.fuel = self.rng.randrange(4, 30)

    def word(self):
        return self.rng.choice(WORDS)

    def words(self):
        return [self.word() for _ in range(self.rng.randrange(3))]

    def parts(self, deep):
        return [self.part(deep - 1) for _ in range(self.rng.randrange(3))]

    def part(self, deep=3):
        """Return a random part: a tuple of its sort and what belongs to it."""
        self.fuel -= 1
        if deep <= 0 or self.fuel < 0:
            return ("word", self.word())
        sort = self.rng.choice("number flag word word deed deed deed make call keep use".split())
        if sort == "number":
            return (sort, self.rng.choice([0, 7, -7, 2 ** 63 - 1, -2 ** 63, -2 ** 63 + 1]))
        if sort == "flag":
            return (sort, self.rng.random() < 0.5)
        if sort == "word":
            return (sort, self.word())
        if sort == "deed":
            sign = self.rng.choice(sorted(LEVELS))
            many = 1 if sign == "not" else 2
            return (sort, sign, [self.part(deep - 1) for _ in range(many)])
        if sort == "keep":
            return (sort, self.word(), self.word(), self.parts(deep))
        return (sort, self.word(), self.parts(deep))

    def body(self, deep=3):
        """Return a random body: a list of lets and drops, and a last part."""
        rows = []
        while self.rng.random() < 0.5 and self.fuel > 0:
            if self.rng.random() < 0.8:
                rows.append(("let", self.word(), self.part()))
            else:
                rows.append(("drop", self.word()))
        return rows + [self.last(deep)]

    def last(self, deep):
        sort = self.rng.choice("end raise go usego if match try".split())
        if deep == 0 or self.fuel <= 0 or sort == "end":
            return ("end", self.part())
        if sort == "raise":
            return (sort, self.part())
        if sort in ("go", "usego"):
            return (sort, self.word(), self.parts(2))
        if sort == "if":
            return (sort, self.part(), self.body(deep - 1), self.body(deep - 1))
        if sort == "match":
            ways = [(self.word(), self.words(), self.body(deep - 1))
                    for _ in range(self.rng.randrange(1, 4))]
            return (sort, self.part(), ways)
        return (sort, self.word(), self.word(), self.parts(2), self.body(deep - 1), self.word(),
                self.body(deep - 1))

    # The tokens.

    def listed(self, rows):
        found = []
        for number, row in enumerate(rows):
            found += ([","] if number else []) + row
        return found

    def part_tokens(self, part, level=0):
        """Return tokens of a part that may stand where signs of a level and above may."""
        sort = part[0]
        own = LEVELS[part[1]] if sort == "deed" else 6
        if own < level or self.rng.random() < 0.1:
            return ["("] + self.part_tokens(part) + [")"]
        if sort == "number":
            return [str(part[1])] if part[1] >= 0 else ["-", str(-part[1])]
        if sort == "flag":
            return ["yes" if part[1] else "no"]
        if sort == "word":
            return [part[1]]
        if sort == "deed" and part[1] == "not":
            return ["not"] + self.part_tokens(part[2][0], 2)
        if sort == "deed":
            first = own + 1 if own == 3 else own
            return (self.part_tokens(part[2][0], first) + [SIGNS[part[1]]]
                    + self.part_tokens(part[2][1], own + 1))
        inner = self.listed([self.part_tokens(inner) for inner in part[-1]])
        if sort == "make":
            return [part[1], "["] + inner + ["]"]
        head = {"call": [], "keep": ["keep", part[1]], "use": ["use"]}[sort]
        return head + [part[-2], "("] + inner + [")"]

    def body_tokens(self, body):
        found = []
        for row in body[:-1]:
            if row[0] == "let":
                found += ["let", row[1], "="] + self.part_tokens(row[2]) + [";"]
            else:
                found += ["drop", row[1], ";"]
        return found + self.last_tokens(body[-1])

    def last_tokens(self, last):
        sort = last[0]
        if sort == "end":
            return self.part_tokens(last[1])
        if sort == "raise":
            return ["raise"] + self.part_tokens(last[1])
        if sort in ("go", "usego"):
            head = ["go"] if sort == "go" else ["go", "use"]
            return head + [last[1], "("] + self.listed([self.part_tokens(own) for own in last[2]]) + [")"]
        if sort == "if":
            return (["if"] + self.part_tokens(last[1]) + ["then"] + self.body_tokens(last[2])
                    + ["else"] + self.body_tokens(last[3]))
        if sort == "match":
            found = ["match"] + self.part_tokens(last[1]) + ["{"]
            for tag, names, body in last[2]:
                found += [tag, "["] + self.listed([[own] for own in names]) + ["]", ":"]
                found += self.body_tokens(body)
            return found + ["}"]
        _, x, f, parts, rest, n, other = last
        return (["try", x, "=", f, "("] + self.listed([self.part_tokens(own) for own in parts])
                + [")", "then"] + self.body_tokens(rest) + ["catch", n, "then"]
                + self.body_tokens(other))

    # The steps.

    def bound(self, part, stands, slot, rest):
        """Return the steps that bind a part to a slot, and rest behind them."""
        sort = part[0]
        if sort in ("number", "flag"):
            return ("num" if sort == "number" else "flag", slot, part[1], rest)
        names = [self.name(own, stands) for own in part[-1]]
        ys = tuple(name for name, _ in names)
        if sort == "deed":
            step = ("deed", slot, part[1], ys, rest)
        elif sort == "keep":
            step = ("keep", slot, part[1], part[2], ys, rest)
        elif sort == "use":
            step = ("use", slot, stands.get(part[1], part[1]), ys, rest)
        else:
            step = (sort, slot, part[1], ys, rest)
        return self.ahead(names, part[-1], stands, step)

    def name(self, part, stands):
        """Return what stands for a part in a step, and whether it has to be bound."""
        if part[0] == "word":
            return stands.get(part[1], part[1]), False
        return Slot(), True

    def ahead(self, names, parts, stands, step):
        for (name, unbound), part in list(zip(names, parts))[::-1]:
            if unbound:
                step = self.bound(part, stands, name, step)
        return step

    def used(self, part, stands, build):
        name, unbound = self.name(part, stands)
        return self.ahead([(name, unbound)], [part], stands, build(name))

    def body_step(self, body, stands):
        row, stands = body[0], dict(stands)
        if row[0] == "drop":
            return ("drop", stands.get(row[1], row[1]), self.body_step(body[1:], stands))
        if row[0] != "let":
            return self.last_step(row, stands)
        _, word, part = row
        behind = dict(stands)
        if part[0] == "word":
            behind[word] = stands.get(part[1], part[1])
            return self.body_step(body[1:], behind)
        behind.pop(word, None)
        return self.bound(part, stands, word, self.body_step(body[1:], behind))

    def last_step(self, last, stands):
        sort = last[0]
        if sort in ("end", "raise"):
            return self.used(last[1], stands, lambda name: (sort, name))
        if sort in ("go", "usego"):
            names = [self.name(part, stands) for part in last[2]]
            word = last[1] if sort == "go" else stands.get(last[1], last[1])
            step = (sort, word, tuple(name for name, _ in names))
            return self.ahead(names, last[2], stands, step)
        if sort == "if":
            ends = [self.body_step(body, stands) for body in last[2:]]
            return self.used(last[1], stands, lambda name: ("test", name, ends[0], ends[1]))
        if sort == "match":
            ways = [(tag, tuple(names), self.body_step(body, without(stands, names)))
                    for tag, names, body in last[2]]
            return self.used(last[1], stands, lambda name: ("take", name, ways))
        _, x, f, parts, rest, n, other = last
        names = [self.name(part, stands) for part in parts]
        step = ("try", x, f, tuple(name for name, _ in names),
                self.body_step(rest, without(stands, [x])), n,
                self.body_step(other, without(stands, [n])))
        return self.ahead(names, parts, stands, step)


def without(stands, names):
    return {word: name for word, name in stands.items() if word not in names}


def slots(value):
    """Return the slots of what a step binds, front first."""
    if isinstance(value, list):
        return [slot for part in value for slot in slots(part[2])]
    if not isinstance(value, tuple):
        return []
    found = [value[1]] if len(value) > 1 and isinstance(value[1], Slot) and value[0] in (
        "num", "flag", "deed", "make", "call", "keep", "use") else []
    return found + [slot for part in value[1:] if isinstance(part, (list, tuple)) for slot in slots(part)]


def filled(value, names):
    if isinstance(value, Slot):
        return names[value]
    if isinstance(value, (list, tuple)):
        return type(value)(filled(part, names) for part in value)
    return value


def all_words():
    letters = "abcdefghijklmnopqrstuvwxyz"
    yield from letters
    for word in all_words():
        for letter in letters:
            yield word + letter


def random_function(seed):
    """Return the tokens of a random function, and the tuple that they tell."""
    texts = Texts(seed)
    name, answer = texts.word(), texts.rng.choice(["num", "flag", "list"])
    parameters = [(texts.word(), texts.rng.choice(["num", "flag", "list"]))
                  for _ in range(texts.rng.randrange(3))]
    body = texts.body()
    tokens = ["fun", name, "("] + texts.listed([[own, ":", kind] for own, kind in parameters])
    tokens += [")", ":", answer, "="] + texts.body_tokens(body)
    step = texts.body_step(body, {})
    given, fresh = {}, all_words()
    for slot in slots(step):
        given[slot] = next(word for word in fresh if word not in RESERVED and word not in tokens)
    return tokens, (name, parameters, answer, filled(step, given))


def spaced(tokens, rng):
    """Return a text of tokens, and where each of them and the end stand."""
    text, line, column, places = "", 1, 1, []
    for number, token in enumerate(tokens + [""]):
        near = number and (tokens[number - 1] + " ")[0].isalnum() and (token + " ")[0].isalnum()
        gaps = [" ", "\n", "\t ", "  ", " # note, fun! A? 00\n"]
        gap = rng.choice(gaps if near else gaps + [""] * 4)
        for sign in gap:
            line, column = (line + 1, 1) if sign == "\n" else (line, column + 1)
        places.append((line, column))
        text += gap + token
        column += len(token)
    return text, places
