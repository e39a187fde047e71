"""What rows do to a machine that go on in their function: each act does one row, or nothing of it.

An act returns the outcome if the run ends with its row, WANT if there are too few cells for
it, STUCK if the registers hold not what it needs; otherwise None.
"""

from cellbills.numbers import reckoned, sign_shape

WANT = ("want",)
STUCK = ("stuck",)


def is_owned_content(content):
    """Tell whether a content is a node or a kept function."""
    return isinstance(content, tuple) and content[0] != "hollow"


def is_hollow(content):
    """Tell whether a content is a hollow cell."""
    return isinstance(content, tuple) and content[0] == "hollow"


def is_number_content(content):
    """Tell whether a content is a number."""
    return isinstance(content, int) and not isinstance(content, bool)


def gathered(slots, sources):
    """Return the contents of registers of which things or frames are made, None if they can't be.

    Behind the contents stand the registers that they leave.
    """
    contents = tuple([slots[source] for source in sources])
    if None in contents:
        return None
    owned = [source for source in sources if isinstance(slots[source], tuple)]
    for source in owned:
        if slots[source][0] == "hollow" or owned.count(source) > 1:
            return None
    return contents, owned


def leave(slots, owned):
    """Empty some registers."""
    for slot in owned:
        slots[slot] = None


def hold(machine, slot, content):
    """Let a register hold a content; give back what stood in it."""
    old = machine.slots[slot]
    machine.slots[slot] = content
    if isinstance(old, tuple):
        machine.store.give_back(old)


def set_slot(machine, slot, content):
    """Let a register hold a content and go on with the next row."""
    hold(machine, slot, content)
    machine.at += 1


def opened(machine, content):
    """Return the tag and the parts of a node or a kept function, None for other contents."""
    if not is_owned_content(content):
        return None
    if content[0] == "bare":
        return content[1], ()
    return machine.store.marks[content[1]], machine.store.contents[content[1]]


def act_set(machine, row):
    """Do a num or a flag."""
    set_slot(machine, row[1], row[2])


def act_move(machine, row):
    """Do a move."""
    content = machine.slots[row[2]]
    if content is None:
        return STUCK
    if isinstance(content, tuple):
        machine.slots[row[2]] = None
    set_slot(machine, row[1], content)
    return None


def act_deed(machine, row):
    """Do a deed."""
    _, slot, sign, sources = row
    arguments = [machine.slots[source] for source in sources]
    flags = sign_shape(sign)[0] == "flag"
    for argument in arguments:
        if not isinstance(argument, int) or isinstance(argument, bool) != flags:
            return STUCK
    set_slot(machine, slot, reckoned(sign, arguments))
    return None


def act_build(machine, row):
    """Do a build."""
    _, slot, tag, sources = row
    if not sources:
        set_slot(machine, slot, ("bare", tag))
        return None
    found = gathered(machine.slots, sources)
    if found is None:
        return STUCK
    if not machine.store.first:
        return WANT
    number = machine.store.take(tag, found[0], 0)
    leave(machine.slots, found[1])
    set_slot(machine, slot, ("cell", number))
    return None


def way_for(ways, tag, parts):
    """Return the registers and the place of the way for a thing, None if there is none."""
    for own, names, place in ways:
        if own == tag:
            return (names, place) if len(names) == len(parts) else None
    return None


def act_take(machine, row):
    """Do a take or a part."""
    word, slot, ways = row
    content = machine.slots[slot]
    thing = opened(machine, content)
    way = None if thing is None else way_for(ways, thing[0], thing[1])
    if way is None or (word == "part" and thing[1] and slot in way[0]):
        return STUCK
    machine.slots[slot] = None
    if thing[1]:
        if word == "part":
            machine.store.fill(content[1], "", ())
            machine.slots[slot] = ("hollow", content[1])
        else:
            machine.store.put_emptied(content[1])
    for own, part in zip(way[0], thing[1]):
        hold(machine, own, part)
    machine.at = way[1]
    return None


def act_refill(machine, row):
    """Do a refill."""
    _, slot, source, tag, sources = row
    hollow = machine.slots[source]
    found = gathered(machine.slots, sources)
    if found is None or not is_hollow(hollow):
        return STUCK
    machine.slots[source] = None
    leave(machine.slots, found[1])
    machine.store.fill(hollow[1], tag, found[0])
    set_slot(machine, slot, ("cell", hollow[1]))
    return None


def act_free(machine, row):
    """Do a free."""
    if not is_hollow(machine.slots[row[1]]):
        return STUCK
    set_slot(machine, row[1], None)
    return None


def act_drop(machine, row):
    """Do a drop."""
    if not is_owned_content(machine.slots[row[1]]):
        return STUCK
    set_slot(machine, row[1], None)
    return None


def act_test(machine, row):
    """Do a test."""
    content = machine.slots[row[1]]
    if not isinstance(content, bool):
        return STUCK
    machine.at = machine.at + 1 if content else row[2]
    return None


# The rows that go on in their function.
ACTS = {
    "num": act_set,
    "flag": act_set,
    "move": act_move,
    "deed": act_deed,
    "build": act_build,
    "take": act_take,
    "part": act_take,
    "refill": act_refill,
    "free": act_free,
    "drop": act_drop,
    "test": act_test,
}
