"""The rules by which bodies are rewritten: what each asks of a row, and what it makes of the rows."""

from cellbills.bodies import MOST_STEPS
from cellbills.numbers import reckoned
from cellbills.steps import arrivals, renamed_row
from cellbills.tables import is_owned

MOST_OWNED = 2


def can_last(_, look, at):
    """Tell whether a step calls, and what comes of it is answered at once."""
    row = look.rows[at]
    return row[0] in ("call", "use") and look.rows[at + 1] == ("end", row[1])


def do_last(_, look, at):
    """Go to what is called."""
    head, _, called, names = look.rows[at]
    row = ("go" if head == "call" else "usego", called, names)
    return look.rows[:at] + [row] + look.rows[at + 2:]


def follows(look, at, heads, user_head):
    """Tell whether a step has one of the heads, and one with a head uses it and follows plainly."""
    if look.rows[at][0] not in heads:
        return False
    user = look.plain_user(at)
    return user is not None and look.rows[user][0] == user_head


def can_taken(_, look, at):
    """Tell whether a node is made that is taken apart plainly."""
    return follows(look, at, ("make",), "take")


def do_taken(_, look, at):
    """Go on with the way of the node that is made no more."""
    rows, user = look.rows, look.plain_user(at)
    _, _, maker, parts = rows[at]
    way = [tag for tag, _ in rows[user][2]].index(maker)
    names = dict(zip(rows[user][2][way][1], parts))
    first = look.links[user][way]
    inner = [renamed_row(row, names) for row in rows[first:look.behind(first)]]
    return rows[:at] + rows[at + 1:user] + inner + rows[look.behind(user):]


def owned_parts(look, row):
    """Return the owned names of which a make or a keep makes a thing."""
    kinds = look.table.makers[row[2]][1] if row[0] == "make" else look.table.heads[row[3]][0]
    return [name for name, kind in zip(row[-1], kinds) if is_owned(kind)]


def can_dropped(_, look, at):
    """Tell whether a thing is made that is dropped plainly."""
    if not follows(look, at, ("make", "keep"), "drop"):
        return False
    return len(owned_parts(look, look.rows[at])) <= MOST_OWNED


def do_dropped(_, look, at):
    """Drop the parts of the thing that is made no more."""
    rows, user = look.rows, look.plain_user(at)
    drops = [("drop", name) for name in owned_parts(look, rows[at])]
    return rows[:at] + rows[at + 1:user] + drops + rows[user + 1:]


def can_tested(_, look, at):
    """Tell whether a flag is tested that is known."""
    row = look.rows[at]
    return row[0] == "test" and row[1] in look.known


def do_tested(_, look, at):
    """Go on with the end that the flag tells."""
    rows = look.rows
    first = look.links[at][0 if look.known[rows[at][1]][2] else 1]
    return rows[:at] + rows[first:look.behind(first)] + rows[look.behind(at):]


def can_reckoned(_, look, at):
    """Tell whether a deed is done with what is known."""
    row = look.rows[at]
    return row[0] == "deed" and all([name in look.known for name in row[3]])


def do_reckoned(_, look, at):
    """Bind what the deed gives."""
    _, name, sign, names = look.rows[at]
    told = reckoned(sign, [look.known[own][2] for own in names])
    row = ("flag" if isinstance(told, bool) else "num", name, told)
    return look.rows[:at] + [row] + look.rows[at + 1:]


def can_dead(_, look, at):
    """Tell whether a number or a flag is bound that no step uses."""
    row = look.rows[at]
    return row[0] in ("num", "flag", "deed") and row[1] not in look.users


def do_dead(_, look, at):
    """Leave the step out."""
    return look.rows[:at] + look.rows[at + 1:]


def called_look(bench, look, at):
    """Return the look at the function that a step calls, None unless it calls another one."""
    row = look.rows[at]
    if row[0] != "call" or row[2] == look.name:
        return None
    return bench.look(bench.numbers[row[2]])


def can_inlined(bench, look, at):
    """Tell whether another function is called whose body may stand in the place of the call."""
    other = called_look(bench, look, at)
    if other is None:
        return False
    heads = [row[0] for row in other.rows]
    lasts = [head for head in heads if head in ("end", "go", "usego")]
    if len(lasts) != 1:
        return False
    # The call is gone; an end is gone, too, a go or a usego becomes a call or a use.
    many = len(look.rows) - 1 + len(heads) - lasts.count("end")
    raises = heads.count("raise")
    if raises:
        owned = look.owned_kept(at)
        if len(owned) > 1:
            return False
        many += raises * len(owned)
    return many <= MOST_STEPS


def names_within(look, other, names):
    """Return the dict of the names that stand in a body for those of another that is called."""
    inner = {own: name for (own, _), name in zip(other.parameters, names)}
    taken, number = look.kinds_of_all(), 0
    for bound in arrivals(other.rows):
        for own in bound:
            while f"w{number}" in taken:
                number += 1
            inner[own] = f"w{number}"
            number += 1
    return inner


def rows_for_last(row, name, rest):
    """Return what becomes of the end, the go or the usego of a body whose answer has a name."""
    if row[0] == "end":
        return [renamed_row(own, {name: row[1]}) for own in rest]
    return [("call" if row[0] == "go" else "use", name) + row[1:]] + rest


def do_inlined(bench, look, at):
    """Put the body of the function in the place of the call."""
    other = called_look(bench, look, at)
    rows, behind = look.rows, look.behind(at)
    _, name, _, arguments = rows[at]
    inner = names_within(look, other, arguments)
    drops = [("drop", own) for own in look.owned_kept(at)]
    found = []
    for own in other.rows:
        row = renamed_row(own, inner)
        if row[0] in ("end", "go", "usego"):
            found.extend(rows_for_last(row, name, rows[at + 1:behind]))
        elif row[0] == "raise":
            found.extend(drops + [row])
        else:
            found.append(row)
    return rows[:at] + found + rows[behind:]


# The rules in the order of the document.
CHECKS = {
    "last": can_last,
    "taken": can_taken,
    "dropped": can_dropped,
    "tested": can_tested,
    "reckoned": can_reckoned,
    "dead": can_dead,
    "inlined": can_inlined,
}
CHANGES = {
    "last": do_last,
    "taken": do_taken,
    "dropped": do_dropped,
    "tested": do_tested,
    "reckoned": do_reckoned,
    "dead": do_dead,
    "inlined": do_inlined,
}


def can_do(bench, rule, number, at):
    """Tell whether a rule stands at a row of a function."""
    check = CHECKS[rule]
    return check(bench, bench.look(number), at)


def do_rule(bench, rule, number, at):
    """Rewrite the body of a function by a rule that stands at a row of it."""
    change = CHANGES[rule]
    bench.change(number, change(bench, bench.look(number), at))
