"""The examples of the document, with just the answers that stand below them."""

import pathlib
import unittest

EXAMPLES = pathlib.Path(__file__).resolve().parent / "examples"


def answers(text):
    """Run the lines of an example; yield what each answer line tells and what came of the line ahead."""
    names, last = {}, None
    for line in text.splitlines():
        if line.startswith("# "):
            yield eval(line[2:], names), last
            continue
        try:
            last = eval(line, names)
        except SyntaxError:
            exec(line, names)


class ExamplesTest(unittest.TestCase):

    def test_examples(self):
        files = sorted(EXAMPLES.glob("*.txt"))
        self.assertTrue(files)
        for file in files:
            found = list(answers(file.read_text()))
            self.assertTrue(found)
            for number, (wanted, told) in enumerate(found):
                with self.subTest(file=file.name, number=number):
                    self.assertEqual(told, wanted)
                    # True is equal to 1, but not written so.
                    self.assertEqual(repr(told), repr(wanted))


if __name__ == "__main__":
    unittest.main()
