"""What the declarations and the functions of a program tell of kinds."""

from cellbills.kinds import choice_makers
from cellbills.numbers import sign_shape
from cellbills.steps import bound_names

# Stand in the place of a kind where any kind of a sort will do; no kind is called so.
ANY = "*"
OWNED = "*owned"
CHOICE = "*choice"
CALLS = "*calls"

# What the steps want of the one name they use, for those that want the same always.
PLAIN = {
    "take": (CHOICE,),
    "drop": (OWNED,),
    "raise": ("num",),
    "test": ("flag",),
    "end": (ANY,),
}


class Table:
    """The kinds of a program by their names, its constructors, and its functions."""

    def __init__(self, kinds, functions):
        self.choices = choice_makers(kinds)
        self.calls = {row[1]: (row[2], row[3]) for row in kinds if row[0] == "calls"}
        self.makers = {}
        for kind, makers in self.choices.items():
            for maker, parts in makers:
                self.makers[maker] = (kind, parts)
        self.heads = {}
        for name, parameters, answer, _ in functions:
            self.heads[name] = ([kind for _, kind in parameters], answer)

    def has_kind(self, kind):
        """Tell whether a string is one of the kinds."""
        return kind in ("num", "flag") or kind in self.choices or kind in self.calls

    def lets(self, wanted, kind):
        """Tell whether a name of a kind may stand where one is wanted."""
        if wanted == CHOICE:
            return kind in self.choices
        if wanted == CALLS:
            return kind in self.calls
        if wanted == OWNED:
            return is_owned(kind)
        return wanted in (ANY, kind)


def is_owned(kind):
    """Tell whether what is of a kind is owned."""
    return kind not in ("num", "flag")


def table_of(program):
    """Return the table of a program."""
    return Table(program[1], program[2])


def wanted_kinds(table, row):
    """Return the kinds that a step wants of the names it uses, but for use and usego."""
    head = row[0]
    if head == "deed":
        kind, many, _ = sign_shape(row[2])
        return [kind] * many
    if head == "make":
        return table.makers[row[2]][1]
    if head in ("call", "try"):
        return table.heads[row[2]][0]
    if head == "go":
        return table.heads[row[1]][0]
    if head == "keep":
        return table.heads[row[3]][0][:len(row[4])]
    return list(PLAIN.get(head, ()))


def bound_kind(table, row, scope):
    """Return the kind of the first name of a step that binds it; scope tells kinds of names."""
    head = row[0]
    if head in ("num", "flag"):
        return head
    if head == "deed":
        return sign_shape(row[2])[2]
    if head == "make":
        return table.makers[row[2]][0]
    if head in ("call", "try"):
        return table.heads[row[2]][1]
    if head == "keep":
        return row[2]
    return table.calls[scope[row[2]]][1]


def bound_kinds(table, row, scope):
    """Return for each end of a step the kinds of the names that are bound on the way to it."""
    head = row[0]
    if head == "take":
        return [table.makers[tag][1] for tag, _ in row[2]]
    if head == "test":
        return [[], []]
    if head == "drop":
        return [[]]
    if head in ("go", "usego", "raise", "end"):
        return []
    if head == "try":
        return [[bound_kind(table, row, scope)], ["num"]]
    return [[bound_kind(table, row, scope)]]


def kinds_of_names(table, parameters, rows):
    """Return a dict of the kinds of all names of a right body, whose parameters are told."""
    scope = {name: kind for name, kind in parameters}
    for row in rows:
        for names, kinds in zip(bound_names(row), bound_kinds(table, row, scope)):
            for name, kind in zip(names, kinds):
                scope[name] = kind
    return scope


def answer_kind(table, row, scope):
    """Return the kind of what a step answers that is none but an end, a go or a usego."""
    if row[0] == "go":
        return table.heads[row[1]][1]
    if row[0] == "usego":
        return table.calls[scope[row[1]]][1]
    return scope[row[1]]
