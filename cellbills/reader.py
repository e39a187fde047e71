"""Texts read: the tuples that they tell, and where one that is not right goes wrong."""

from cellbills.drafts import Draft, note
from cellbills.errors import InvalidList, InvalidText
from cellbills.grammar import ruled
from cellbills.lexer import scanned
from cellbills.numbers import GREATEST, LEAST


def ahead_of(token):
    """Return how the grammar calls a token."""
    sort, row = token[:2]
    if sort == "sign":
        return row
    names = {"word": "W", "number": "N", "end": "$", "wrong": "?"}
    return names[sort]


def fits(symbol, token):
    """Tell whether a token is what the grammar wants."""
    sort, row = token[:2]
    if symbol == "K":
        return sort == "word" or row in ("num", "flag")
    if symbol == "N":
        return sort == "number" and int(row) <= GREATEST
    if symbol == "M":
        return sort == "number" and int(row) <= -LEAST
    return ahead_of(token) == symbol


def hold(draft, symbol, token):
    """Hold what a later deed needs of a token."""
    sort, row = token[:2]
    if sort == "word":
        draft.words[row] = True
    if symbol in ("W", "K"):
        draft.held.append(row)
    if sort == "number":
        draft.held.append(int(row))


def drafted(text):
    """Read a text; return the draft, and the place of the first wrong token or None."""
    found = scanned(text)
    draft, at = Draft(), 0
    waiting = ["@text"]
    while waiting:
        symbol = waiting.pop()
        if symbol[0] == "@":
            waiting.extend(ruled(symbol, ahead_of(found[at]))[::-1])
        elif symbol[0] == "!":
            note(draft, symbol[1:])
        elif fits(symbol, found[at]):
            hold(draft, symbol, found[at])
            at += 1
        else:
            return draft, found[at][2:]
    return draft, None


def read_text(text):
    """Return the tuple that a right text tells."""
    if not isinstance(text, str):
        raise InvalidList(text)
    draft, wrong = drafted(text)
    if wrong is not None:
        raise InvalidText(wrong)
    return "program", draft.kinds, draft.functions


def is_text(value):
    """Tell whether a value is a right text."""
    return isinstance(value, str) and wrong_at(value) is None


def wrong_at(text):
    """Return (line, column) of the first wrong token of a text, None for a right one."""
    if not isinstance(text, str):
        raise InvalidList(text)
    return drafted(text)[1]
