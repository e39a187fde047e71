"""Checks that several tests make of a function of the package."""

from tests.samples import share_lists


class Checks:
    """Stands beside unittest.TestCase among the bases of a test."""

    def refused(self, function, kind, at, *arguments):
        """Check that a call raises an error whose field is just one of the arguments."""
        before = repr(arguments)
        with self.assertRaises(kind) as caught:
            function(*arguments)
        self.assertIs(caught.exception.value, arguments[at])
        self.assertIs(type(caught.exception), kind)
        self.assertEqual(repr(arguments), before)

    def told(self, function, *arguments):
        """Return what a call returns; check that it changes nothing and all its lists are new."""
        before = repr(arguments)
        one, other = function(*arguments), function(*arguments)
        self.assertEqual(repr(one), repr(other))
        self.assertEqual(repr(arguments), before)
        self.assertFalse(share_lists(arguments, one))
        self.assertFalse(share_lists([one], [other]))
        return one

    def is_told(self, wanted, function, *arguments):
        """Check that a call tells whether something is so, and changes nothing."""
        before = repr(arguments)
        self.assertIs(function(*arguments), wanted)
        self.assertEqual(repr(arguments), before)


def spoilt(value, rng):
    """Yield values that differ from a value of lists, tuples, words and numbers in one place."""
    if isinstance(value, bool):
        yield from (not value, int(value), None)
    elif isinstance(value, int):
        yield from (value + 1, -1 - value, str(value), None)
        if value in (0, 1):
            yield bool(value)
    elif isinstance(value, str):
        yield from (value + "x", "", None, [value])
    elif isinstance(value, (list, tuple)):
        other = tuple if isinstance(value, list) else list
        yield from (other(value), None)
        yield from (value + value[-1:], value[:-1]) if value else (value + type(value)([1]),)
        for at in rng.sample(range(len(value)), min(len(value), 6)):
            for part in spoilt(value[at], rng):
                yield value[:at] + type(value)([part]) + value[at + 1:]
