"""Fractions as tuples (above, below) in least terms, and sums of them."""

from math import gcd

from cellbills.numbers import is_whole


def is_fraction(value):
    """Tell whether a value is a fraction in least terms."""
    if not isinstance(value, tuple) or len(value) != 2:
        return False
    above, below = value
    return is_whole(above) and is_whole(below) and below >= 1 and gcd(above, below) == 1


def are_amounts(value, many):
    """Tell whether a value is a list of so many fractions that are at least 0."""
    if not isinstance(value, list) or len(value) != many:
        return False
    return all([is_fraction(amount) and amount[0] >= 0 for amount in value])


def fraction(above, below):
    """Return the fraction of two whole numbers, the second one of which is above 0."""
    common = gcd(above, below)
    return above // common, below // common


def sum_of(pairs):
    """Return the sum of fractions, each so often: pairs are (often, fraction)."""
    # What has one below is summed first: sums of many unlike ones grow long.
    sums = {}
    for often, (above, below) in pairs:
        sums[below] = sums.get(below, 0) + often * above
    total, scale = 0, 1
    for below, above in sums.items():
        common = gcd(scale, below)
        total = total * (below // common) + above * (scale // common)
        scale = scale * (below // common)
    return fraction(total, scale)


def is_at_least(amount, number):
    """Tell whether a fraction is at least a whole number."""
    return amount[0] >= number * amount[1]


def least_whole(amount):
    """Return the least whole number that is at least a fraction."""
    return -(-amount[0] // amount[1])


def scaled(amounts):
    """Return whole numbers that are in the same proportion, and what a 1 is among them."""
    scale, belows = 1, {own: True for _, own in amounts}
    for below in belows:
        scale = scale * (below // gcd(scale, below))
    return [above * (scale // below) for above, below in amounts], scale
