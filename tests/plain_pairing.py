"""Other names alive and other pairings, by looking at all there are."""

import itertools

from tests.plain_reading import all_steps, ends, free, uses


class Numbered:
    """The steps of a body by their numbers, and the way to each: (number, end) of those ahead."""

    def __init__(self, body):
        self.steps, self.ways, self.ends = [], [], []
        self.number(body, [])

    def number(self, step, way):
        own = len(self.steps)
        self.steps.append(step)
        self.ways.append(way)
        self.ends.append(not ends(step))
        for end, behind in enumerate(ends(step)):
            self.number(behind, way + [(own, end)])

    def is_made(self, at):
        return self.steps[at][0] in ("make", "keep") and bool(uses(self.steps[at]))

    def is_left(self, at, end):
        return self.steps[at][0] == "take" and bool(self.steps[at][2][end][1])

    def is_right(self, pairs):
        mades = dict(pairs)
        if len(mades) != len(pairs) or pairs != sorted(pairs):
            return False
        for made, taken in pairs:
            if not self.is_made(made) or (taken not in [at for at, _ in self.ways[made]]):
                return False
            way = self.ways[made]
            at = [own for own, _ in way].index(taken)
            if not self.is_left(*way[at]):
                return False
            for own, _ in way[at + 1:]:
                if self.steps[own][0] in ("call", "use", "try"):
                    return False
                if self.is_made(own) and (own not in mades or mades[own] == taken):
                    return False
        return True

    def all_right(self):
        """Yield all right pairings."""
        mades = [at for at in range(len(self.steps)) if self.is_made(at)]
        choices = [[None] + [own for own, end in self.ways[at] if self.is_left(own, end)] for at in mades]
        for told in itertools.product(*choices):
            pairs = [(made, taken) for made, taken in zip(mades, told) if taken is not None]
            if self.is_right(pairs):
                yield pairs

    def counts(self, pairs):
        """Return how many pairs there are on each way through the body."""
        return [sum(made == at or made in [own for own, _ in self.ways[at]] for made, _ in pairs)
                for at in range(len(self.steps)) if self.ends[at]]

    def chosen(self):
        """Return the pairing in which, front first, each has the nearest that can be."""
        pairs = []
        for made in range(len(self.steps)):
            for taken, _ in self.ways[made][::-1]:
                if self.is_right(pairs + [(made, taken)]):
                    pairs.append((made, taken))
                    break
        return pairs


def plain_alive(function):
    return [free(step) for step in all_steps(function[3])]
