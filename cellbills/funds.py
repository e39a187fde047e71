"""Funds: how often each rate counts in what things bring along.

A weighed thing is a node or kept function with a fourth item, a dict that tells how often
rates stand in its fund: by a constructor for those of the table by which it is held, by a
tuple (function, number, constructor) for those of the table of a function's argument.
"""

from cellbills.values import is_plain, rebuilt


def weighed_of(sort, tag, parts):
    """Return a weighed thing with parts that are weighed."""
    weights = {}
    if sort == "node":
        weights[tag] = 1
    for number, part in enumerate(parts):
        if is_plain(part):
            continue
        for key, often in part[3].items():
            # A kept function holds what it took along by the tables of its own arguments.
            own = (tag, number, key) if sort == "kept" and isinstance(key, str) else key
            weights[own] = weights.get(own, 0) + often
    return sort, tag, parts, weights


def weighed_like(thing, parts):
    """Return a thing weighed, whose parts are weighed already."""
    return weighed_of(thing[0], thing[1], parts)


def weighed(thing):
    """Return a thing with all things in it weighed."""
    return rebuilt(thing, weighed_like)


def fund_of(tariff, table, thing):
    """Return the list of (unknown, often) of the fund of a weighed thing held by a table."""
    if is_plain(thing):
        return []
    found = []
    for key, often in thing[3].items():
        if isinstance(key, str):
            found.append((tariff.rate(table, key), often))
        else:
            name, number, maker = key
            own = tariff.functions[name].arguments[number]
            found.append((tariff.rate(own, maker), often))
    return found


def funds_of(tariff, name, values):
    """Return the dict of how often unknowns stand in what a function wants and its arguments' funds."""
    signature = tariff.functions[name]
    counts = {signature.wants: 1}
    for table, value in zip(signature.arguments, values):
        for number, often in fund_of(tariff, table, weighed(value)):
            counts[number] = counts.get(number, 0) + often
    return counts
