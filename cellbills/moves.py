"""Shuffles of registers, and the rows of moves that do them."""

from cellbills.errors import InvalidList, InvalidNumber
from cellbills.numbers import is_count

MOST_TUPLES = 40
MOST_NUMBERS = 100


def is_place(value):
    """Tell whether a value is the number of a register that a shuffle may name."""
    return is_count(value) and value < MOST_NUMBERS


def is_move(value):
    """Tell whether a value is a tuple of two registers."""
    if not isinstance(value, tuple) or len(value) != 2:
        return False
    return is_place(value[0]) and is_place(value[1])


def is_shuffle(value):
    """Tell whether a value is a shuffle."""
    if not isinstance(value, list) or len(value) > MOST_TUPLES:
        return False
    return all([is_move(pair) for pair in value]) and len(dict(value)) == len(value)


def ask_shuffle(shuffle):
    """Raise the error unless a value is a shuffle."""
    if not is_shuffle(shuffle):
        raise InvalidList(shuffle)


def ask_spare(shuffle, spare):
    """Raise the error unless a value is a register that doesn't stand in a shuffle."""
    if not is_place(spare) or any([spare in pair for pair in shuffle]):
        raise InvalidNumber(spare)


def is_moves(shuffle, spare, value):
    """Tell whether a value is a row of moves that does a shuffle."""
    ask_shuffle(shuffle)
    ask_spare(shuffle, spare)
    if not isinstance(value, list) or not all([is_move(pair) for pair in value]):
        return False
    held = list(range(MOST_NUMBERS))
    for first, other in value:
        held[first] = held[other]
    wanted = dict(shuffle)
    return all([held[own] == wanted.get(own, own) for own in range(MOST_NUMBERS) if own != spare])


def unlike_pairs(shuffle):
    """Return the tuples of a shuffle that bring a register what another one holds."""
    return [pair for pair in shuffle if pair[0] != pair[1]]


def reading_anew(pairs, old, new):
    """Return tuples that read another register in the place of one."""
    return [(first, new if other == old else other) for first, other in pairs]


def first_able(left):
    """Return the number of the first tuple whose first register is read by none, or None."""
    wanted = {other: True for _, other in left}
    for number, pair in enumerate(left):
        if pair[0] not in wanted:
            return number
    return None


def moves_of(shuffle, spare):
    """Return the row of moves for a shuffle and a spare register that are known to be right."""
    left, found = unlike_pairs(shuffle), []
    while left:
        able = first_able(left)
        if able is None:
            first = left[0][0]
            found.append((spare, first))
            left = reading_anew(left, first, spare)
        else:
            first, other = left[able]
            found.append((first, other))
            left = reading_anew(left[:able] + left[able + 1:], other, first)
    return found


def moves(shuffle, spare):
    """Return the row of moves that does a shuffle, front first whatever can be done."""
    ask_shuffle(shuffle)
    ask_spare(shuffle, spare)
    return moves_of(shuffle, spare)


def ring_from(first, table):
    """Return the registers from one on, each with what the next one held, back to it, or None."""
    found, at = [first], table[first]
    while at != first:
        if at not in table or len(found) > len(table):
            return None
        found.append(at)
        at = table[at]
    return found


def rings_of(shuffle):
    """Return the list of the rings of what is known to be a shuffle."""
    pairs = unlike_pairs(shuffle)
    table, others = dict(pairs), [other for _, other in pairs]
    found = []
    for first in sorted(list(table)):
        ring = ring_from(first, table)
        if ring is None or min(ring) != first:
            continue
        if all([others.count(own) == 1 for own in ring]):
            found.append(ring)
    return found


def rings(shuffle):
    """Return the rings of a shuffle, in order."""
    ask_shuffle(shuffle)
    return rings_of(shuffle)


def fewest_moves(shuffle):
    """Return how many moves a row has at least that does a shuffle."""
    ask_shuffle(shuffle)
    return len(unlike_pairs(shuffle)) + len(rings_of(shuffle))
