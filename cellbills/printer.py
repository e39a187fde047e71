"""Programs written as texts, and programs with other names in their bodies."""

from cellbills.checker import ask_program
from cellbills.steps import arrivals, links_of, renamed_row, rows_of, step_of
from cellbills.words import short_words

SIGNS = {
    "plus": "+",
    "minus": "-",
    "times": "*",
    "over": "/",
    "rest": "~",
    "less": "<",
    "same": "=",
    "both": "&",
    "any": "|",
}


def listed(words):
    """Return words with a comma and a blank between."""
    return ", ".join(words)


def declaration_line(declaration):
    """Return the line of a declaration."""
    name = declaration[1]
    if declaration[0] == "calls":
        return f"calls {name} = ({listed(declaration[2])}) to {declaration[3]}"
    makers = " | ".join([f"{maker}[{listed(parts)}]" for maker, parts in declaration[2]])
    return f"kind {name} = {makers}"


def head_line(function):
    """Return the first line of a function."""
    name, parameters, answer, _ = function
    told = [f"{own}: {kind}" for own, kind in parameters]
    return f"fun {name}({listed(told)}): {answer} ="


def deed_text(row):
    """Return what stands behind the sign `=` for a deed."""
    _, _, sign, names = row
    if sign == "not":
        return f"not {names[0]}"
    return f"{names[0]} {SIGNS[sign]} {names[1]}"


def bound_text(row):
    """Return what stands behind the sign `=` for a step that binds one name."""
    head = row[0]
    if head == "num":
        return str(row[2])
    if head == "flag":
        return "yes" if row[2] else "no"
    if head == "deed":
        return deed_text(row)
    if head == "make":
        return f"{row[2]}[{listed(row[3])}]"
    if head == "keep":
        return f"keep {row[2]} {row[3]}({listed(row[4])})"
    told = f"{row[2]}({listed(row[3])})"
    return told if head == "call" else f"use {told}"


def plain_line(row):
    """Return the line of a step with at most one end."""
    head = row[0]
    if head == "end":
        return row[1]
    if head == "raise":
        return f"raise {row[1]}"
    if head == "drop":
        return f"drop {row[1]};"
    if head in ("go", "usego"):
        told = f"{row[1]}({listed(row[2])})"
        return f"go {told}" if head == "go" else f"go use {told}"
    return f"let {row[1]} = {bound_text(row)};"


def step_parts(row, ends):
    """Return the lines of a step, and the numbers of its ends, each with its further blanks."""
    if row[0] == "test":
        return [(0, f"if {row[1]} then"), (2, ends[0]), (0, "else"), (2, ends[1])]
    if row[0] == "try":
        first = f"try {row[1]} = {row[2]}({listed(row[3])}) then"
        return [(0, first), (2, ends[0]), (0, f"catch {row[4]} then"), (2, ends[1])]
    if row[0] == "take":
        parts = [(0, "match " + row[1] + " {")]
        for (tag, names), end in zip(row[2], ends):
            parts.extend([(2, f"{tag}[{listed(names)}]:"), (4, end)])
        return parts + [(0, "}")]
    return [(0, plain_line(row))] + [(0, end) for end in ends]


def body_lines(body):
    """Return the lines of a body, and for each step the number of the line with which it begins."""
    rows = rows_of(body)
    links = links_of(rows)
    lines, starts, waiting = [], [0] * len(rows), [(2, 0)]
    while waiting:
        blanks, part = waiting.pop()
        if isinstance(part, str):
            lines.append(" " * blanks + part)
        else:
            starts[part] = len(lines)
            parts = step_parts(rows[part], links[part])
            waiting.extend([(blanks + more, own) for more, own in parts[::-1]])
    return lines, starts


def written(program):
    """Return a text from which just this program is read."""
    ask_program(program)
    lines = [declaration_line(declaration) for declaration in program[1]]
    for function in program[2]:
        lines.append(head_line(function))
        lines.extend(body_lines(function[3])[0])
    return "".join([line + "\n" for line in lines])


def new_declaration(declaration):
    """Return an equal declaration, all lists in it new."""
    if declaration[0] == "calls":
        return declaration[:2] + (list(declaration[2]), declaration[3])
    makers = [(maker, list(parts)) for maker, parts in declaration[2]]
    return declaration[:2] + (makers,)


def renamed_function(function):
    """Return a function's head and the rows of its body, with the names a, b, and so on."""
    name, parameters, answer, body = function
    rows = rows_of(body)
    bound = [own for own, _ in parameters]
    for names in arrivals(rows):
        bound.extend(names)
    table = dict(zip(bound, short_words(len(bound), {})))
    head = (name, [(table[own], kind) for own, kind in parameters], answer)
    return head, [renamed_row(row, table) for row in rows]


def renamed(program):
    """Return the program with the names a, b, and so on in all bodies."""
    ask_program(program)
    functions = []
    for function in program[2]:
        head, rows = renamed_function(function)
        functions.append(head + (step_of(rows),))
    return "program", [new_declaration(row) for row in program[1]], functions


def are_alike(one, other):
    """Tell whether two programs differ in the names of their bodies alone."""
    ask_program(one)
    ask_program(other)
    # Rows are compared in place of steps: they do not stand within one another.
    if one[1] != other[1] or len(one[2]) != len(other[2]):
        return False
    pairs = list(zip(one[2], other[2]))
    return all([renamed_function(first) == renamed_function(last) for first, last in pairs])
