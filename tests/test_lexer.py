"""[9]: texts cut into tokens."""

import unittest

from cellbills.errors import InvalidList, InvalidText
from cellbills.lexer import tokens
from tests.samples import ODD

SIGNS = "( ) [ ] { } , ; : = | & < + - * / ~".split()
RESERVED = ("calls catch drop else end fail flag fun go if in keep kind let match no not num raise"
            " take then to try use yes").split()


class TokensTest(unittest.TestCase):

    def sorts(self, text):
        return [row[:2] for row in tokens(text)[:-1]]

    def wrong(self, text, *place):
        with self.assertRaises(InvalidText) as caught:
            tokens(text)
        self.assertEqual(caught.exception.value, place, text)
        self.assertIsInstance(caught.exception.value, tuple)

    def test_signs(self):
        for sign in SIGNS:
            self.assertEqual(tokens(sign), [("sign", sign, 1, 1), ("end", "", 1, 2)])
        self.assertEqual(self.sorts("".join(SIGNS)), [("sign", sign) for sign in SIGNS])

    def test_reserved_words(self):
        for word in RESERVED:
            self.assertEqual(tokens(word), [("sign", word, 1, 1), ("end", "", 1, len(word) + 1)])
            self.assertEqual(self.sorts(word + "s" * 3), [("word", word + "sss")])

    def test_words(self):
        for word in ("a", "z", "a1", "x9y8", "plus", "program", "a" * 30, "a" + "1" * 29, "ending"):
            self.assertEqual(self.sorts(word), [("word", word)])
        self.wrong("a" * 31, 1, 1)
        self.wrong("x " + "a1" * 16, 1, 3)
        self.wrong("A", 1, 1)
        self.wrong("aB", 1, 2)
        self.wrong("a_b", 1, 2)

    def test_numbers(self):
        for number in ("0", "1", "10", "9" * 19, "1" + "0" * 18, str(2 ** 63)):
            self.assertEqual(self.sorts(number), [("number", number)])
        for number in ("00", "01", "007", "1" + "0" * 19, "9" * 20, "0" * 20, "9" * 400):
            self.wrong(number, 1, 1)
            self.wrong("a\n " + number + " A", 2, 2)
        self.assertEqual(self.sorts("-5"), [("sign", "-"), ("number", "5")])

    def test_as_long_as_can_be(self):
        self.assertEqual(self.sorts("5x"), [("number", "5"), ("word", "x")])
        self.assertEqual(self.sorts("x5"), [("word", "x5")])
        self.assertEqual(self.sorts("0x0"), [("number", "0"), ("word", "x0")])
        self.assertEqual(self.sorts("letx"), [("word", "letx")])
        self.assertEqual(self.sorts("let x"), [("sign", "let"), ("word", "x")])
        self.assertEqual(self.sorts("a-b"), [("word", "a"), ("sign", "-"), ("word", "b")])
        self.assertEqual(self.sorts("9" * 19 + "let"), [("number", "9" * 19), ("sign", "let")])

    def test_no_tokens(self):
        for sign in "!\"$%'.>?@ABZ\\^_`":
            self.wrong(sign, 1, 1)
            self.wrong("a" + sign + "!", 1, 2)
            self.wrong("# " + sign + "\n\t" + sign, 2, 2)

    def test_lines_and_columns(self):
        self.assertEqual(tokens("a b\n\tc\n\n  d"), [
            ("word", "a", 1, 1), ("word", "b", 1, 3), ("word", "c", 2, 2), ("word", "d", 4, 3),
            ("end", "", 4, 4)])
        self.assertEqual(tokens("f(-5)"), [
            ("word", "f", 1, 1), ("sign", "(", 1, 2), ("sign", "-", 1, 3), ("number", "5", 1, 4),
            ("sign", ")", 1, 5), ("end", "", 1, 6)])

    def test_end(self):
        for text, place in (("", (1, 1)), ("  ", (1, 3)), ("\t", (1, 2)), ("\n", (2, 1)), ("\n\n ", (3, 2)),
                            ("#", (1, 2)), ("# note", (1, 7)), ("# note\n", (2, 1)), ("#\n#\n", (3, 1))):
            self.assertEqual(tokens(text), [("end", "") + place], repr(text))
        self.assertEqual(tokens("a  \n ")[-1], ("end", "", 2, 2))

    def test_notes(self):
        self.assertEqual(tokens("a# b c\nd"), [("word", "a", 1, 1), ("word", "d", 2, 1), ("end", "", 2, 2)])
        self.assertEqual(tokens("a # b # ? A 00")[-1], ("end", "", 1, 15))
        self.assertEqual(tokens("a # b"), [("word", "a", 1, 1), ("end", "", 1, 6)])
        self.assertEqual(self.sorts("#a\n#b\nc#d"), [("word", "c")])

    def test_what_is_no_string(self):
        for value in ODD:
            if not isinstance(value, str):
                with self.assertRaises(InvalidList) as caught:
                    tokens(value)
                self.assertIs(caught.exception.value, value)

    def test_lists_are_new(self):
        tokens("a b").clear()
        self.assertEqual(len(tokens("a b")), 3)


if __name__ == "__main__":
    unittest.main()
