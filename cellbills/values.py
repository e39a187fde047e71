"""Things: whether a value is one, of which kind, and how many cells it takes."""

from cellbills.checker import ask_program
from cellbills.errors import InvalidKind, InvalidValue
from cellbills.kinds import MOST_PARTS
from cellbills.numbers import is_number
from cellbills.tables import table_of
from cellbills.words import is_word

MOST_DEPTH = 200
MOST_THINGS = 20000


def is_owned_form(value):
    """Tell whether a value has the form of a node or kept function but for its parts."""
    if not isinstance(value, tuple) or len(value) != 3:
        return False
    if value[0] != "node" and value[0] != "kept":
        return False
    return is_word(value[1]) and isinstance(value[2], tuple) and len(value[2]) <= MOST_PARTS


def is_thing(value):
    """Tell whether a value is a thing, of whatever program."""
    waiting, seen = [(value, 1)], 0
    while waiting:
        part, deep = waiting.pop()
        seen += 1
        if seen > MOST_THINGS or deep > MOST_DEPTH:
            return False
        if is_number(part) or isinstance(part, bool):
            continue
        if not is_owned_form(part):
            return False
        waiting.extend([(own, deep + 1) for own in part[2]])
    return True


def kept_kinds(table, kind, thing):
    """Return the kinds of the parts of a kept function of a calls kind, or None."""
    if thing[1] not in table.heads:
        return None
    parameters, answer = table.heads[thing[1]]
    many = len(thing[2])
    if len(parameters) < many or (parameters[many:], answer) != table.calls[kind]:
        return None
    return parameters[:many]


def part_kinds(table, kind, thing):
    """Return the kinds that the parts of a thing need for it to be of a kind, or None."""
    if kind == "num" or kind == "flag":
        return [] if isinstance(thing, bool) == (kind == "flag") and is_plain(thing) else None
    if is_plain(thing):
        return None
    if thing[0] == "kept":
        return kept_kinds(table, kind, thing) if kind in table.calls else None
    if thing[1] not in table.makers or table.makers[thing[1]][0] != kind:
        return None
    parts = table.makers[thing[1]][1]
    return parts if len(parts) == len(thing[2]) else None


def is_plain(thing):
    """Tell whether a thing is a number or a flag."""
    return not isinstance(thing, tuple)


def is_of_kind(table, kind, value):
    """Tell whether a value is a thing of a kind of the program whose table this is."""
    if not is_thing(value):
        return False
    waiting = [(kind, value)]
    while waiting:
        wanted, thing = waiting.pop()
        kinds = part_kinds(table, wanted, thing)
        if kinds is None:
            return False
        if kinds:
            waiting.extend(list(zip(kinds, thing[2])))
    return True


def is_value(program, kind, value):
    """Tell whether a value is a thing of a kind of a program."""
    ask_program(program)
    table = table_of(program)
    if not isinstance(kind, str) or not table.has_kind(kind):
        raise InvalidKind(kind)
    return is_of_kind(table, kind, value)


def rebuilt(thing, make):
    """Return what comes of a thing, part by part: `make` gets each one and what came of its parts."""
    waiting, done = [(thing, False)], []
    while waiting:
        part, ready = waiting.pop()
        if is_plain(part):
            done.append(part)
        elif ready:
            first = len(done) - len(part[2])
            parts = tuple(done[first:])
            del done[first:]
            done.append(make(part, parts))
        else:
            waiting.append((part, True))
            waiting.extend([(own, False) for own in part[2][::-1]])
    return done[0]


def cells_of(thing):
    """Return how many cells a thing takes that is known to be one."""
    waiting, cells = [thing], 0
    while waiting:
        part = waiting.pop()
        if not is_plain(part) and part[2]:
            cells += 1
            waiting.extend(part[2])
    return cells


def size(value):
    """Return how many cells a thing takes, with all things in it."""
    if not is_thing(value):
        raise InvalidValue(value)
    return cells_of(value)


def depth(value):
    """Return how many things stand within one another at most."""
    if not is_thing(value):
        raise InvalidValue(value)
    deepest, waiting = 1, [(value, 1)]
    while waiting:
        part, deep = waiting.pop()
        deepest = max(deepest, deep)
        if not is_plain(part):
            waiting.extend([(own, deep + 1) for own in part[2]])
    return deepest
