"""Projections: what demands ask of the prices alone, once the inner unknowns are taken out.

A blend is a sum of rows (counts, least, origin): a dict of how often unknowns stand in it, what
it is to be at least, and a whole number whose bits tell of which rows it comes. Each inner
unknown may count as a row of its own, too, as it is at least 0. Only blends are kept of whose
rows no other blend comes of some alone: the others are sums of those.
"""

from math import gcd


def bounds_of_times(numbers, others):
    """Return the least and the greatest fraction by which numbers can be taken to be below others.

    A fraction is (above, below), the greatest one None if there is none; both are None if
    there is no such fraction.
    """
    least, greatest = (0, 1), None
    for own, other in zip(numbers, others):
        if own > 0:
            if greatest is None or other * greatest[1] < greatest[0] * own:
                greatest = (other, own)
        elif own < 0:
            if -other * least[1] > least[0] * -own:
                least = (-other, -own)
        elif other < 0:
            return None, None
    return least, greatest


def follows_from(told, other):
    """Tell whether a tuple is kept wherever another one is, for prices from 0 on.

    This is so if the other one, taken some times, is nowhere above it, and its least not below.
    """
    least, greatest = bounds_of_times(other[0] + [-other[1]], told[0] + [-told[1]])
    if least is None:
        return False
    return greatest is None or least[0] * greatest[1] <= greatest[0] * least[1]


def is_kept_always(told):
    """Tell whether all prices from 0 on keep a tuple."""
    return told[1] <= 0 and min(told[0], default=0) >= 0


def without_followers(tuples):
    """Return tuples without those that are kept wherever another one of them is."""
    left = []
    for told in tuples:
        if is_kept_always(told) or any([follows_from(told, other) for other in left]):
            continue
        left = [other for other in left if not follows_from(other, told)] + [told]
    return left


def dense(rows, many):
    """Return rows (counts, least) as tuples (numbers, least) over so many unknowns."""
    told = [(dict(counts), least) for counts, least in rows]
    return [([counts.get(number, 0) for number in range(many)], least) for counts, least in told]


def floor_of(told, known):
    """Return the unknown that is at least 0 by a tuple, where others are known to be, or None."""
    numbers, least = told
    above = [at for at, often in enumerate(numbers) if often > 0]
    if len(above) != 1 or least < 0 or above[0] in known:
        return None
    others = [at for at, often in enumerate(numbers) if often < 0]
    return above[0] if all([at in known for at in others]) else None


def note_floors(tuples, known):
    """Note the unknowns that are at least 0 by tuples, where others are known to be."""
    found = True
    while found:
        floors = [floor_of(told, known) for told in tuples]
        found = [number for number in floors if number is not None]
        known.update({number: True for number in found})


def told_floors(tuples, prices, inner):
    """Return the inner unknowns of which it has to be told that they are at least 0."""
    known, found = {number: True for number in range(prices)}, []
    note_floors(tuples, known)
    for number in inner:
        if number not in known:
            found.append(number)
            known[number] = True
            note_floors(tuples, known)
    return found


def first_blends(demands):
    """Return the blends of single demands, and of inner unknowns, which are at least 0.

    Those that always hold if the others do are left out: they would only make more of them.
    """
    tuples = without_followers(dense(demands.rows, demands.total))
    found = [({at: often for at, often in enumerate(numbers) if often}, least) for numbers, least in tuples]
    inner = {number: True for counts, _ in found for number in counts if number >= demands.prices}
    floors = told_floors(tuples, demands.prices, list(inner))
    found.extend([({number: 1}, 0) for number in floors])
    return [(counts, least, 1 << at) for at, (counts, least) in enumerate(found)]


def inner_in(blends, prices):
    """Return the list of the inner unknowns that stand in blends."""
    return list({number: True for counts, _, _ in blends for number in counts if number >= prices})


def growth(blends, number):
    """Return by how many blends more there are at most once an unknown is taken out."""
    above = len([counts for counts, _, _ in blends if counts.get(number, 0) > 0])
    below = len([counts for counts, _, _ in blends if counts.get(number, 0) < 0])
    return above * below - above - below


def lessened(counts, least):
    """Return counts without zeros, and a least, divided by what all of them have in common."""
    counts = {number: often for number, often in counts.items() if often}
    common = least
    for often in counts.values():
        common = gcd(common, often)
    if common < 2:
        return counts, least
    return {number: often // common for number, often in counts.items()}, least // common


def blended(one, other, number):
    """Return the blend of two, in which an unknown stands above and below 0, that is without it."""
    above, below = one[0][number], -other[0][number]
    common = gcd(above, below)
    above, below = above // common, below // common
    counts = {own: often * below for own, often in one[0].items()}
    for own, often in other[0].items():
        counts[own] = counts.get(own, 0) + often * above
    counts, least = lessened(counts, one[1] * below + other[1] * above)
    return counts, least, one[2] | other[2]


def comes_of_less(origins, first, second, origin):
    """Tell whether another blend than two comes of none but the rows of theirs."""
    for at, own in enumerate(origins):
        if own | origin == origin and at != first and at != second:
            return True
    return False


def taken_out(blends, number):
    """Return the blends without an unknown that come of blends."""
    origins = [origin for _, _, origin in blends]
    signed = [(at, counts.get(number, 0)) for at, (counts, _, _) in enumerate(blends)]
    above = [at for at, often in signed if often > 0]
    below = [at for at, often in signed if often < 0]
    found = [blends[at] for at, often in signed if often == 0]
    for first in above:
        for second in below:
            if not comes_of_less(origins, first, second, origins[first] | origins[second]):
                found.append(blended(blends[first], blends[second], number))
    return found


def projected(demands):
    """Return the tuples (numbers, least) that prices keep exactly if inner numbers go with them."""
    blends = first_blends(demands)
    inner = inner_in(blends, demands.prices)
    while inner:
        _, number = min([(growth(blends, number), number) for number in inner])
        blends = taken_out(blends, number)
        inner = inner_in(blends, demands.prices)
    prices = list(range(demands.prices))
    found = []
    for counts, least, _ in blends:
        counts, least = lessened(counts, least)
        found.append(([counts.get(number, 0) for number in prices], least))
    return found
