"""Words: what a name may be, and the short ones that are given where a text gives none."""

LETTERS = "abcdefghijklmnopqrstuvwxyz"
DIGITS = "0123456789"
MOST_SIGNS = 30

RESERVED = {
    "calls": True, "catch": True, "drop": True, "else": True, "end": True, "fail": True,
    "flag": True, "fun": True, "go": True, "if": True, "in": True, "keep": True,
    "kind": True, "let": True, "match": True, "no": True, "not": True, "num": True,
    "raise": True, "take": True, "then": True, "to": True, "try": True, "use": True,
    "yes": True,
}


def is_letter(sign):
    """Tell whether one character is a small letter."""
    return "a" <= sign <= "z"


def is_digit(sign):
    """Tell whether one character is a digit."""
    return "0" <= sign <= "9"


def is_reserved(text):
    """Tell whether a string is a reserved word."""
    return text in RESERVED


def is_word(value):
    """Tell whether a value is a word."""
    if not isinstance(value, str) or not 1 <= len(value) <= MOST_SIGNS:
        return False
    if not is_letter(value[0]) or is_reserved(value):
        return False
    return all([is_letter(sign) or is_digit(sign) for sign in value])


def are_strings(values):
    """Tell whether all items of a list or tuple are strings."""
    return all([isinstance(value, str) for value in values])


def letters(number):
    """Return the row of letters with a number in the order a, b, .., z, aa, ab, .."""
    row = ""
    while number >= 0:
        row = LETTERS[number % 26] + row
        number = number // 26 - 1
    return row


def short_words(many, barred):
    """Return the first so many words a, b, .. that are neither reserved nor barred."""
    found = []
    number = 0
    while len(found) < many:
        row = letters(number)
        number += 1
        if not is_reserved(row) and row not in barred:
            found.append(row)
    return found
