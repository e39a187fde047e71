"""What is noted of a text while it is read, and the tuples that come of it.

The steps of a function are noted as rows, front first. As long as it is not known how
the name is called that a row binds, the number of the row stands in its place.
"""

from cellbills.numbers import is_sign, sign_shape
from cellbills.steps import BINDING, renamed_row, step_of
from cellbills.words import short_words


class Draft:
    """What was read so far, and what waits to be used."""

    def __init__(self):
        self.kinds = []
        self.functions = []
        # Words, numbers, names and parts that a later deed takes, the last one first.
        self.held = []
        # How much was held where the lists began that are read now.
        self.marks = []
        self.begin_body()

    def begin_body(self):
        """Begin a function."""
        self.words = {}
        self.rows = []
        self.given = {}
        # For which names the words stand that stand for others than themselves.
        self.stands = {}
        self.forks = []

    def taken(self):
        """Take all that is held behind the last mark."""
        first = self.marks.pop()
        found = self.held[first:]
        del self.held[first:]
        return found

    def note_row(self, *row):
        """Note a step of which all names are known, or held."""
        self.rows.append(row)

    def hold_row(self, head, *parts):
        """Note a step that binds a name which is not known yet; hold the row's number."""
        number = len(self.rows)
        self.rows.append((head, number) + parts)
        self.held.append(number)

    def fork_row(self, *row):
        """Note a step with several ends."""
        self.forks.append((dict(self.stands), len(self.rows), []))
        self.rows.append(row)

    def open_end(self, names):
        """Begin an end of the last fork, on the way to which names are bound."""
        self.stands = dict(self.forks[-1][0])
        for name in names:
            self.stands.pop(name, None)


def begin_list(draft):
    """Note that what is held from now on is a list."""
    draft.marks.append(len(draft.held))


def note_maker(draft):
    """Hold a constructor with its parts."""
    parts = draft.taken()
    draft.held.append((draft.held.pop(), parts))


def note_choice(draft):
    """Note a choice kind."""
    makers = draft.taken()
    draft.kinds.append(("choice", draft.held.pop(), makers))


def note_calls(draft):
    """Note a calls kind."""
    answer = draft.held.pop()
    wanted = draft.taken()
    draft.kinds.append(("calls", draft.held.pop(), wanted, answer))


def begin_function(draft):
    """Begin a function."""
    draft.begin_body()


def note_parameter(draft):
    """Hold a parameter with its kind."""
    kind = draft.held.pop()
    draft.held.append((draft.held.pop(), kind))


def is_nameless(row):
    """Tell whether a row binds a name that is not known yet."""
    return row[0] in BINDING and not isinstance(row[1], str)


def note_function(draft):
    """Note a function, and give names to what has none."""
    nameless = [row[1] for row in draft.rows if is_nameless(row) and row[1] not in draft.given]
    for number, name in zip(nameless, short_words(len(nameless), draft.words)):
        draft.given[number] = name
    body = step_of([renamed_row(row, draft.given) for row in draft.rows])
    answer = draft.held.pop()
    parameters = draft.taken()
    draft.functions.append((draft.held.pop(), parameters, answer, body))


def note_name(draft):
    """Hold the name for which a word stands."""
    word = draft.held.pop()
    draft.held.append(draft.stands.get(word, word))


def note_let(draft):
    """Bind a word to what is held, or let it stand for a name."""
    part, word = draft.held.pop(), draft.held.pop()
    if isinstance(part, str):
        draft.stands[word] = part
    else:
        draft.given[part] = word
        draft.stands.pop(word, None)


def note_drop(draft):
    """Note a drop."""
    draft.note_row("drop", draft.held.pop())


def note_raise(draft):
    """Note a raise."""
    draft.note_row("raise", draft.held.pop())


def note_end(draft):
    """Note an end."""
    draft.note_row("end", draft.held.pop())


def note_go(draft):
    """Note a go."""
    names = tuple(draft.taken())
    draft.note_row("go", draft.held.pop(), names)


def note_usego(draft):
    """Note a usego."""
    names = tuple(draft.taken())
    draft.note_row("usego", draft.held.pop(), names)


def note_test(draft):
    """Note a test."""
    draft.fork_row("test", draft.held.pop())


def begin_end(draft):
    """Begin an end of a test."""
    draft.open_end(())


def note_take(draft):
    """Note a take, whose ways are not known yet."""
    draft.fork_row("take", draft.held.pop())


def note_way(draft):
    """Note a way of a take and begin its end."""
    names = tuple(draft.taken())
    draft.forks[-1][2].append((draft.held.pop(), names))
    draft.open_end(names)


def note_try(draft):
    """Note a try, whose second name is not known yet, and begin its first end."""
    names = tuple(draft.taken())
    function, name = draft.held.pop(), draft.held.pop()
    draft.fork_row("try", name, function, names)
    draft.open_end((name,))


def note_catch(draft):
    """Note the second name of a try and begin its second end."""
    name = draft.held.pop()
    number = draft.forks[-1][1]
    draft.rows[number] = draft.rows[number] + (name,)
    draft.open_end((name,))


def close_fork(draft):
    """Note that all ends of a step were read."""
    _, number, ways = draft.forks.pop()
    if draft.rows[number][0] == "take":
        draft.rows[number] = draft.rows[number] + (tuple(ways),)


def bind_number(draft):
    """Note a num."""
    draft.hold_row("num", draft.held.pop())


def bind_negative(draft):
    """Note a num whose number stands behind a sign."""
    draft.hold_row("num", -draft.held.pop())


def bind_yes(draft):
    """Note a flag that is True."""
    draft.hold_row("flag", True)


def bind_no(draft):
    """Note a flag that is False."""
    draft.hold_row("flag", False)


def bind_make(draft):
    """Note a make."""
    names = tuple(draft.taken())
    draft.hold_row("make", draft.held.pop(), names)


def bind_call(draft):
    """Note a call."""
    names = tuple(draft.taken())
    draft.hold_row("call", draft.held.pop(), names)


def bind_keep(draft):
    """Note a keep."""
    names = tuple(draft.taken())
    function, kind = draft.held.pop(), draft.held.pop()
    draft.hold_row("keep", kind, function, names)


def bind_use(draft):
    """Note a use."""
    names = tuple(draft.taken())
    draft.hold_row("use", draft.held.pop(), names)


def bind_deed(draft, sign):
    """Note a deed with what was held last."""
    first = len(draft.held) - sign_shape(sign)[1]
    names = tuple(draft.held[first:])
    del draft.held[first:]
    draft.hold_row("deed", sign, names)


DEEDS = {
    "mark": begin_list,
    "maker": note_maker,
    "choice": note_choice,
    "calls": note_calls,
    "begin": begin_function,
    "parameter": note_parameter,
    "function": note_function,
    "name": note_name,
    "let": note_let,
    "drop": note_drop,
    "raise": note_raise,
    "end": note_end,
    "go": note_go,
    "usego": note_usego,
    "test": note_test,
    "end of test": begin_end,
    "take": note_take,
    "way": note_way,
    "try": note_try,
    "catch": note_catch,
    "close": close_fork,
    "number": bind_number,
    "less than 0": bind_negative,
    "yes": bind_yes,
    "no": bind_no,
    "make": bind_make,
    "call": bind_call,
    "keep": bind_keep,
    "use": bind_use,
}


def note(draft, word):
    """Note what a deed of the grammar tells; the signs of deeds are some of them."""
    if is_sign(word):
        bind_deed(draft, word)
    else:
        deed = DEEDS[word]
        deed(draft)
