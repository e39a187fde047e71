"""What rows do to a machine that lay frames, go on elsewhere or come back: acts as in `acts`."""

from cellbills.acts import ACTS, STUCK, WANT, gathered, is_hollow, is_number_content
from cellbills.acts import is_owned_content, leave, opened
from cellbills.cells import thing_in
from cellbills.names import cost_of_keeping
from cellbills.rows import SLOTS


def refill_slots(machine, contents, first):
    """Let the first registers hold contents, all others nothing; give back what stands from one on."""
    left = [content for content in machine.slots[first:] if isinstance(content, tuple)]
    for content in left:
        machine.store.give_back(content)
    machine.slots = contents + [None] * (SLOTS - len(contents))


def go_to(machine, name, at):
    """Go on at a row of a function."""
    machine.name = name
    machine.rows = machine.book.rows[name]
    machine.at = at


def cells_for(row):
    """Return how many cells a push or a handle takes."""
    return cost_of_keeping("try" if row[0] == "handle" else "call", len(row[-1]))


def link_content(number):
    """Return the content that tells the number of a frame or handler, 0 for none."""
    return ("cell", number) if number else None


def gathered_for(machine, row):
    """Return why a push or a handle can't be done, or None, and the contents that it lays.

    If it can be done, nodes and kept functions leave their registers.
    """
    found = gathered(machine.slots, row[-1])
    if found is None:
        return STUCK, None
    if not machine.store.has(cells_for(row)):
        return WANT, None
    leave(machine.slots, found[1])
    return None, found[0]


def act_push(machine, row):
    """Do a push."""
    why, contents = gathered_for(machine, row)
    if why is None:
        mark = ("frame", machine.name, machine.at)
        machine.frame = machine.store.lay(mark, contents, machine.frame)
        machine.at += 1
    return why


def act_handle(machine, row):
    """Do a handle."""
    why, contents = gathered_for(machine, row)
    if why is None:
        mark = ("handler", machine.name, machine.at)
        ahead = (link_content(machine.frame), link_content(machine.handler))
        machine.handler = machine.store.lay(mark, ahead + contents, 0)
        machine.frame = 0
        machine.at += 1
    return why


def act_jump(machine, row):
    """Do a jump."""
    many = machine.book.heads[row[1]]
    refill_slots(machine, machine.slots[:many], many)
    go_to(machine, row[1], 0)


def act_enter(machine, row):
    """Do an enter."""
    many = row[1]
    content = machine.slots[many]
    if not is_owned_content(content):
        return STUCK
    tag, parts = opened(machine, content)
    if machine.book.heads.get(tag) != len(parts) + many:
        return STUCK
    if parts:
        machine.store.put_emptied(content[1])
    refill_slots(machine, list(parts) + machine.slots[:many], many + 1)
    go_to(machine, tag, 0)
    return None


def come_back(machine, number):
    """Take a frame or handler apart and go back; return the row that made it, contents, and link."""
    _, name, at = machine.store.marks[number]
    go_to(machine, name, at)
    row = machine.rows[at]
    contents, link = machine.store.unlay(number, cells_for(row))
    first = len(contents) - len(row[-1])
    for slot, content in zip(row[-1], contents[first:]):
        machine.slots[slot] = content
    return row, contents, link


def leave_frame(machine):
    """Take the last frame apart and go back; return the row that made it."""
    row, _, machine.frame = come_back(machine, machine.frame)
    return row


def leave_handler(machine):
    """Take the handler apart and go back; return the row that made it."""
    row, contents, _ = come_back(machine, machine.handler)
    machine.frame, machine.handler = [0 if own is None else own[1] for own in contents[:2]]
    return row


def act_return(machine, row):
    """Do a return."""
    content = machine.slots[row[1]]
    if content is None or is_hollow(content):
        return STUCK
    if isinstance(content, tuple):
        machine.slots[row[1]] = None
    refill_slots(machine, [], 0)
    if not machine.frame and not machine.handler:
        machine.slots[0] = content
        machine.at += 1
        return "value", thing_in(machine.store, machine.book.heads, content)
    made = leave_frame(machine) if machine.frame else leave_handler(machine)
    machine.slots[made[1]] = content
    machine.at = made[2]
    return None


def act_raise(machine, row):
    """Do a raise."""
    number = machine.slots[row[1]]
    if not is_number_content(number):
        return STUCK
    refill_slots(machine, [], 0)
    if machine.frame:
        # All frames come free by one deed, the others below the last one.
        machine.store.put(machine.frame)
        machine.frame = 0
    if not machine.handler:
        machine.at += 1
        return "fault", number
    made = leave_handler(machine)
    machine.slots[made[3]] = number
    machine.at = made[4]
    return None


# The rows that lay frames, go on elsewhere or come back.
LEAPS = {
    "push": act_push,
    "handle": act_handle,
    "jump": act_jump,
    "enter": act_enter,
    "return": act_return,
    "raise": act_raise,
}


def do_row(machine):
    """Do the next row; return the outcome if the run ends with it, otherwise None."""
    if machine.at == len(machine.rows):
        return STUCK
    row = machine.rows[machine.at]
    if row[0] in ACTS:
        act = ACTS[row[0]]
    else:
        act = LEAPS[row[0]]
    outcome = act(machine, row)
    if outcome is None or len(outcome) == 2:
        machine.done += 1
    return outcome
