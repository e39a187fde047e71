"""The package keeps to the subset of Python that it is written in, as far as can be seen."""

import unittest

from tests.language_rules import broken_rules


class LanguageTest(unittest.TestCase):

    def test_no_rule_is_broken(self):
        self.assertEqual(broken_rules(), [])


if __name__ == "__main__":
    unittest.main()
