"""The look through one body for the first thing that is wrong in it."""

from cellbills.kinds import MOST_PARTS
from cellbills.numbers import is_number, is_sign, sign_shape
from cellbills.steps import bound_names, called_function, ends_of, has_form, row_of, used_names
from cellbills.tables import CALLS, answer_kind, bound_kinds, is_owned, wanted_kinds
from cellbills.words import is_word

MOST_STEPS = 400


class Way:
    """The names that are bound on the way to a step, and the owned ones not used yet."""

    def __init__(self):
        self.scope = {}
        self.left = {}

    def bind(self, names, kinds):
        """Note names that are bound."""
        for name, kind in zip(names, kinds):
            self.scope[name] = kind
            if is_owned(kind):
                self.left[name] = True

    def wrong_use(self, table, name, wanted):
        """Note that a name is used; return what is wrong with it, or None."""
        if name not in self.scope:
            return "unknown"
        kind = self.scope[name]
        if is_owned(kind) and name not in self.left:
            return "used"
        if not table.lets(wanted, kind):
            return "kind"
        if is_owned(kind):
            del self.left[name]
        return None

    def forked(self):
        """Return another way with the same names."""
        other = Way()
        other.scope = dict(self.scope)
        other.left = dict(self.left)
        return other


def wrong_number(_, row):
    """Look at what a num binds."""
    return None if is_number(row[2]) else "number"


def wrong_flag(_, row):
    """Look at what a flag binds."""
    return None if isinstance(row[2], bool) else "form"


def wrong_deed(_, row):
    """Look at the sign of a deed."""
    if not is_sign(row[2]):
        return "sign"
    return None if sign_shape(row[2])[1] == len(row[3]) else "count"


def wrong_make(table, row):
    """Look at the constructor of a make."""
    if row[2] not in table.makers:
        return "constructor"
    return None if len(table.makers[row[2]][1]) == len(row[3]) else "count"


def wrong_call(table, row):
    """Look at the function of a call, a go or a try."""
    function = called_function(row)
    if function not in table.heads:
        return "function"
    return None if len(table.heads[function][0]) == len(used_names(row)) else "count"


def wrong_keep(table, row):
    """Look at the kind and the function of a keep."""
    _, _, kind, function, names = row
    if kind not in table.calls:
        return "kind"
    if function not in table.heads:
        return "function"
    wanted, answer = table.calls[kind]
    parameters, own_answer = table.heads[function]
    if len(names) > MOST_PARTS or len(parameters) != len(names) + len(wanted):
        return "count"
    return None if (parameters[len(names):], own_answer) == (wanted, answer) else "shape"


# The steps that name more than names.
LOOKS = {
    "num": wrong_number,
    "flag": wrong_flag,
    "deed": wrong_deed,
    "make": wrong_make,
    "call": wrong_call,
    "go": wrong_call,
    "keep": wrong_keep,
    "try": wrong_call,
}


def wrong_in_itself(table, row):
    """Return what is wrong in a step but for the names that it uses and binds, or None."""
    if row[0] not in LOOKS:
        return None
    look = LOOKS[row[0]]
    return look(table, row)


def wrong_in_names(table, names, kinds, way):
    """Return what is first wrong with names that are used where kinds are wanted, or None."""
    for name, kind in zip(names, kinds):
        why = way.wrong_use(table, name, kind)
        if why is not None:
            return why
    return None


def wrong_in_uses(table, row, way):
    """Return what is first wrong with the names that a step uses, or None."""
    names = used_names(row)
    if row[0] not in ("use", "usego"):
        return wrong_in_names(table, names, wanted_kinds(table, row), way)
    why = way.wrong_use(table, names[0], CALLS)
    if why is not None:
        return why
    wanted = table.calls[way.scope[names[0]]][0]
    if len(wanted) != len(names) - 1:
        return "count"
    return wrong_in_names(table, names[1:], wanted, way)


def wrong_in_ways(table, row, way):
    """Return what is wrong with the ways of a take, or None."""
    makers = table.choices[way.scope[row[1]]]
    if [tag for tag, _ in row[2]] != [maker for maker, _ in makers]:
        return "constructor"
    for (_, names), (_, parts) in zip(row[2], makers):
        if len(names) != len(parts):
            return "count"
    return None


def wrong_in_bindings(row, bound):
    """Note the names that a step binds; return what is first wrong with them, or None."""
    for names in bound_names(row):
        for name in names:
            if not is_word(name):
                return "name"
            if name in bound:
                return "twice"
            bound[name] = True
    return None


def wrong_in_step(table, row, way, answer, bound):
    """Return what is first wrong in a step that has the form of one, or None."""
    why = wrong_in_itself(table, row)
    if why is None:
        why = wrong_in_uses(table, row, way)
    if why is not None:
        return why
    if row[0] in ("go", "usego", "end") and answer_kind(table, row, way.scope) != answer:
        return "answer"
    if row[0] == "take":
        why = wrong_in_ways(table, row, way)
    if why is None:
        why = wrong_in_bindings(row, bound)
    if why is None and row[0] in ("go", "usego", "raise", "end") and way.left:
        return "left"
    return why


def ways_behind(table, row, way):
    """Return the ways to the ends of a step that is right."""
    kinds = bound_kinds(table, row, way.scope)
    # Most steps have one end: there the way itself goes on.
    ways = [way] if len(kinds) == 1 else [way.forked() for _ in kinds]
    for behind, names, own in zip(ways, bound_names(row), kinds):
        behind.bind(names, own)
    return ways


def wrong_in_body(table, function, place):
    """Return (place, why) of what is first wrong in the body of a function, or None."""
    _, parameters, answer, body = function
    way = Way()
    way.bind([name for name, _ in parameters], [kind for _, kind in parameters])
    bound = dict(way.scope)
    waiting = [(body, place, way)]
    for _ in range(MOST_STEPS):
        step, place, way = waiting.pop()
        if not has_form(step):
            return place, "form"
        row = row_of(step)
        why = wrong_in_step(table, row, way, answer, bound)
        if why is not None:
            return place, why
        ends = list(zip(ends_of(step), ways_behind(table, row, way)))
        for at in reversed(range(len(ends))):
            waiting.append((ends[at][0], place + (at,), ends[at][1]))
        if not waiting:
            return None
    return waiting[-1][1], "many"
