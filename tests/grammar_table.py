"""The table of right texts as a grammar, and a slow way to see how far a row of tokens is right.

Rows of tokens are looked at as Earley did: all that may come next is noted at each token, so
a token is the first wrong one exactly if nothing is left behind it.
"""

RESERVED = ("calls catch drop else end fail flag fun go if in keep kind let match no not num raise"
            " take then to try use yes").split()


def listed(name, part):
    return {name: [[], [part, name + "+"]], name + "+": [[], [",", part, name + "+"]]}


def leveled(name, part, signs):
    return {name: [[part, name + "+"]], name + "+": [[]] + [[sign, part, name + "+"] for sign in signs]}


GRAMMAR = {
    "text": [["declarations", "functions"]],
    "declarations": [[], ["kinds", "declarations"], ["calls_", "declarations"]],
    "functions": [[], ["function", "functions"]],
    "kinds": [["kind", "W", "=", "maker", "makers"]],
    "makers": [[], ["|", "maker", "makers"]],
    "maker": [["W", "[", "Ks", "]"]],
    "calls_": [["calls", "W", "=", "(", "Ks", ")", "to", "K"]],
    "K": [["W"], ["num"], ["flag"]],
    "parameter": [["W", ":", "K"]],
    "function": [["fun", "W", "(", "parameters", ")", ":", "K", "=", "body"]],
    "body": [["last"], ["let", "W", "=", "any", ";", "body"], ["drop", "W", ";", "body"]],
    "last": [["any"], ["raise", "any"], ["go", "W", "(", "anys", ")"],
             ["go", "use", "W", "(", "anys", ")"], ["if", "any", "then", "body", "else", "body"],
             ["match", "any", "{", "way", "ways", "}"],
             ["try", "W", "=", "W", "(", "anys", ")", "then", "body", "catch", "W", "then", "body"]],
    "ways": [[], ["way", "ways"]],
    "way": [["W", "[", "Ws", "]", ":", "body"]],
    "not_": [["not", "not_"], ["less"]],
    "less": [["sum"], ["sum", "<", "sum"], ["sum", "=", "sum"]],
    "part": [["N"], ["-", "N"], ["-", "M"], ["yes"], ["no"], ["W"], ["W", "[", "anys", "]"],
             ["W", "(", "anys", ")"], ["keep", "W", "W", "(", "anys", ")"],
             ["use", "W", "(", "anys", ")"], ["(", "any", ")"]],
}
GRAMMAR.update(listed("Ks", "K"))
GRAMMAR.update(listed("Ws", "W"))
GRAMMAR.update(listed("anys", "any"))
GRAMMAR.update(listed("parameters", "parameter"))
GRAMMAR.update(leveled("any", "both", ["|"]))
GRAMMAR.update(leveled("both", "not_", ["&"]))
GRAMMAR.update(leveled("sum", "product", ["+", "-"]))
GRAMMAR.update(leveled("product", "part", ["*", "/", "~"]))


def nullable():
    found = set()
    while True:
        more = {name for name, rows in GRAMMAR.items()
                if any(all(part in found for part in row) for row in rows)}
        if more == found:
            return found
        found = more


EMPTY = nullable()


def sort_of(token):
    """Return how the grammar calls a token that stands in a list of strings."""
    if token.isdigit():
        number = int(token)
        return "N" if number < 2 ** 63 else "M" if number == 2 ** 63 else "?"
    return "W" if token[0].isalpha() and token not in RESERVED else token


def closed(items, charts):
    """Add what comes of items (name, row, dot, begin) at the place of the last chart."""
    here, found, waiting = len(charts), set(items), list(items)

    def add(item):
        if item not in found:
            found.add(item)
            waiting.append(item)

    while waiting:
        name, row, dot, begin = waiting.pop()
        if dot == len(row):
            behind = found if begin == here else charts[begin]
            for other in list(behind):
                if other[2] < len(other[1]) and other[1][other[2]] == name:
                    add((other[0], other[1], other[2] + 1, other[3]))
        elif row[dot] in GRAMMAR:
            for own in GRAMMAR[row[dot]]:
                add((row[dot], tuple(own), 0, here))
            if row[dot] in EMPTY:
                add((name, row, dot + 1, begin))
    return found


def first_wrong(tokens):
    """Return the number of the first wrong token, that of the end too, None if all is right."""
    charts = []
    chart = closed({("text", tuple(GRAMMAR["text"][0]), 0, 0)}, charts)
    for number, token in enumerate(tokens):
        sort = sort_of(token)
        charts.append(chart)
        moved = {(name, row, dot + 1, begin) for name, row, dot, begin in chart
                 if dot < len(row) and row[dot] == sort and row[dot] not in GRAMMAR}
        if not moved:
            return number
        chart = closed(moved, charts)
    whole = ("text", tuple(GRAMMAR["text"][0]), 2, 0)
    return None if whole in chart else len(tokens)
