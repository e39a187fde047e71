"""Steps as tuples, and bodies as lists of rows.

A row is a step without its ends, and with the ways of a take as tuples; the rows of a
body stand as its steps are numbered, front first. So no function has to call itself,
however deep steps stand within one another, and rows hold no lists.
"""

from cellbills.words import are_strings

MOST_NAMES = 8

# What stands behind the first string of each step.
FORMS = {
    "num": ("name", "value", "end"),
    "flag": ("name", "value", "end"),
    "deed": ("name", "word", "names", "end"),
    "make": ("name", "word", "names", "end"),
    "take": ("name", "ways"),
    "call": ("name", "word", "names", "end"),
    "go": ("word", "names"),
    "keep": ("name", "word", "word", "names", "end"),
    "use": ("name", "name", "names", "end"),
    "usego": ("name", "names"),
    "drop": ("name", "end"),
    "raise": ("name",),
    "try": ("name", "word", "names", "end", "name", "end"),
    "test": ("name", "end", "end"),
    "end": ("name",),
}
BINDING = ("num", "flag", "deed", "make", "call", "keep", "use", "try")


def is_name_tuple(value):
    """Tell whether a value is a tuple of at most 8 strings."""
    return isinstance(value, tuple) and len(value) <= MOST_NAMES and are_strings(value)


def is_way(value):
    """Tell whether a value has the form of a way of a take."""
    if not isinstance(value, tuple) or len(value) != 3:
        return False
    return isinstance(value[0], str) and is_name_tuple(value[1])


def is_part(value, code):
    """Tell whether a value may stand in a step where a form has a code."""
    if code in ("name", "word"):
        return isinstance(value, str)
    if code == "names":
        return is_name_tuple(value)
    if code == "ways":
        return isinstance(value, list) and all([is_way(way) for way in value])
    return True


def has_form(value):
    """Tell whether a value has the form of a step; its ends are not looked at."""
    if not isinstance(value, tuple) or not value or not isinstance(value[0], str):
        return False
    if value[0] not in FORMS:
        return False
    form = FORMS[value[0]]
    if len(value) != len(form) + 1:
        return False
    return all([is_part(part, code) for part, code in zip(value[1:], form)])


def row_of(step):
    """Return the row of a step."""
    if step[0] == "take":
        return "take", step[1], tuple([way[:2] for way in step[2]])
    codes = FORMS[step[0]]
    return step[:1] + tuple([part for part, code in zip(step[1:], codes) if code != "end"])


def ends_of(step):
    """Return the list of the ends of a step."""
    if step[0] == "take":
        return [way[2] for way in step[2]]
    return [part for part, code in zip(step[1:], FORMS[step[0]]) if code == "end"]


def count_ends(row):
    """Return how many ends the step of a row has."""
    return len(row[2]) if row[0] == "take" else FORMS[row[0]].count("end")


def with_ends(row, ends):
    """Return the step of a row, with these ends."""
    if row[0] == "take":
        return "take", row[1], [way + (end,) for way, end in zip(row[2], ends)]
    if row[0] == "try":
        return row[:4] + (ends[0], row[4], ends[1])
    return row + tuple(ends)


def rows_of(step):
    """Return the rows of a step and of all steps behind it."""
    found, waiting = [], [step]
    while waiting:
        first = waiting.pop()
        found.append(row_of(first))
        waiting.extend(ends_of(first)[::-1])
    return found


def formed_rows(value, most):
    """Return the rows of a step, or None if some form is wrong or there are too many."""
    found, waiting = [], [value]
    while waiting:
        first = waiting.pop()
        if len(found) == most or not has_form(first):
            return None
        found.append(row_of(first))
        waiting.extend(ends_of(first)[::-1])
    return found


def step_of(rows):
    """Return the step whose rows these are; all lists in it are new."""
    waiting = []
    for row in rows[::-1]:
        ends = [waiting.pop() for _ in range(count_ends(row))]
        waiting.append(with_ends(row, ends))
    return waiting[0]


def links_of(rows):
    """Return for each row the list of the numbers of the rows of its ends."""
    links, waiting = [], []
    for number in reversed(range(len(rows))):
        links.append([waiting.pop() for _ in range(count_ends(rows[number]))])
        waiting.append(number)
    return links[::-1]


def places_of_rows(links, first):
    """Return the places of rows with these links, the first one of which is given."""
    places = [first] * len(links)
    for number, ends in enumerate(links):
        for at, end in enumerate(ends):
            places[end] = places[number] + (at,)
    return places


def row_at(links, place):
    """Return the number of the row of the step at a place of a function, or None."""
    at = 0
    for end in place[3:]:
        if end >= len(links[at]):
            return None
        at = links[at][end]
    return at


def place_along(links, first, at):
    """Return the place of the step of a row, the place of the first one of which is given."""
    ends = []
    for ahead in reversed(range(at)):
        if at in links[ahead]:
            ends.append(links[ahead].index(at))
            at = ahead
    return first + tuple(ends[::-1])


def used_names(row):
    """Return the tuple of the names that a step uses, in the order in which they stand."""
    head = row[0]
    if head in ("num", "flag"):
        return ()
    if head in ("deed", "make", "call", "try"):
        return row[3]
    if head == "keep":
        return row[4]
    if head == "go":
        return row[2]
    if head == "use":
        return row[2:3] + row[3]
    if head == "usego":
        return row[1:2] + row[2]
    return row[1:2]


def argument_names(row):
    """Return the tuple of the names that a step hands to the function it calls or goes to."""
    return row[2] if row[0] in ("go", "usego") else row[3]


def bound_names(row):
    """Return for each end of a step the tuple of the names that are bound on the way to it."""
    head = row[0]
    if head == "take":
        return [names for _, names in row[2]]
    if head == "try":
        return [row[1:2], row[4:5]]
    if head in BINDING:
        return [row[1:2]]
    return [()] * count_ends(row)


def called_function(row):
    """Return the name of the function that a step calls, goes to, keeps or tries, or None."""
    head = row[0]
    if head in ("call", "try"):
        return row[2]
    if head == "go":
        return row[1]
    return row[3] if head == "keep" else None


def arrivals(rows):
    """Return for each row the tuple of the names that are bound on the way to it."""
    found = [()] * len(rows)
    for row, ends in zip(rows, links_of(rows)):
        for end, names in zip(ends, bound_names(row)):
            found[end] = names
    return found


def renamed_part(part, code, names):
    """Return what stands in a row where its form has a code, with other names."""
    if code == "name":
        return names.get(part, part)
    if code == "names":
        return tuple([names.get(name, name) for name in part])
    if code == "ways":
        return tuple([(tag, renamed_part(own, "names", names)) for tag, own in part])
    return part


def renamed_row(row, names):
    """Return a row with other names for those that a dict tells."""
    codes = [code for code in FORMS[row[0]] if code != "end"]
    parts = [renamed_part(part, code, names) for part, code in zip(row[1:], codes)]
    return row[:1] + tuple(parts)
