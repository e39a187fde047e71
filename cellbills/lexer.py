"""Texts cut into tokens."""

from cellbills.errors import InvalidList, InvalidText
from cellbills.words import is_digit, is_letter, is_reserved, is_word

SIGNS = "()[]{},;:=|&<+-*/~"
MOST_DIGITS = 19


def is_row_sign(sign, letters):
    """Tell whether a character goes on a row of digits, or of letters and digits."""
    return is_digit(sign) or (letters and is_letter(sign))


def token_end(text, at):
    """Return where the token ends that begins at a place, as long as it can be."""
    letters = is_letter(text[at])
    if not is_row_sign(text[at], letters):
        return at + 1
    while at < len(text) and is_row_sign(text[at], letters):
        at += 1
    return at


def note_end(text, at):
    """Return where the note ends that begins at a place: ahead of the line end."""
    end = text.find("\n", at)
    return len(text) if end < 0 else end


def sort_of(token):
    """Return the sort of a token, "wrong" if it is none."""
    if is_word(token):
        return "word"
    if is_reserved(token) or token in SIGNS:
        return "sign"
    if not is_digit(token[0]) or len(token) > MOST_DIGITS:
        return "wrong"
    return "number" if token == "0" or token[0] != "0" else "wrong"


def scanned(text):
    """Return the tokens of a text up to its end, or up to what is no token, as "wrong"."""
    found = []
    at, line, start = 0, 1, 0
    while at < len(text):
        sign = text[at]
        if sign == "\n":
            line, start = line + 1, at + 1
        if sign in " \t\n":
            at += 1
        elif sign == "#":
            at = note_end(text, at)
        else:
            end = token_end(text, at)
            sort = sort_of(text[at:end])
            found.append((sort, text[at:end], line, at - start + 1))
            if sort == "wrong":
                return found
            at = end
    found.append(("end", "", line, at - start + 1))
    return found


def tokens(text):
    """Return the tokens of a text, the last one being its end."""
    if not isinstance(text, str):
        raise InvalidList(text)
    found = scanned(text)
    if found[-1][0] == "wrong":
        raise InvalidText(found[-1][2:])
    return found
