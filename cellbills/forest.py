"""Forests: whether each cell of a picture is come to in just one way."""

from cellbills.kinds import MOST_PARTS
from cellbills.numbers import is_number, is_whole
from cellbills.rows import SLOTS
from cellbills.words import is_word


def is_link(value, many):
    """Tell whether a value is the number of one of so many cells, or 0 for none."""
    return is_whole(value) and 0 <= value <= many


def is_content(value, many, words):
    """Tell whether a value is a content; words are the sorts of cells that it may be."""
    if value is None or isinstance(value, bool) or is_number(value):
        return True
    if not isinstance(value, tuple) or len(value) != 2 or not isinstance(value[0], str):
        return False
    if value[0] == "bare":
        return is_word(value[1])
    return value[0] in words and is_link(value[1], many) and value[1] > 0


def is_cell_form(value, many):
    """Tell whether a value has the form of one of so many cells of a picture."""
    if not isinstance(value, tuple) or len(value) != 3 or not is_link(value[2], many):
        return False
    if not isinstance(value[1], tuple) or len(value[1]) > MOST_PARTS:
        return False
    return all([is_content(content, many, ("cell",)) for content in value[1]])


def is_picture_form(value):
    """Tell whether a value has the form of a picture."""
    if not isinstance(value, tuple) or len(value) != 5:
        return False
    slots, cells = value[0], value[4]
    if not isinstance(slots, list) or len(slots) != SLOTS or not isinstance(cells, list):
        return False
    many = len(cells)
    if not all([is_content(content, many, ("cell", "hollow")) for content in slots]):
        return False
    if not all([is_link(number, many) for number in value[1:4]]):
        return False
    return all([is_cell_form(cell, many) for cell in cells])


def cells_from(contents, links):
    """Return the numbers of the cells to which contents and links lead."""
    found = [content[1] for content in contents
             if isinstance(content, tuple) and content[0] != "bare"]
    return found + [link for link in links if link]


def is_forest(picture):
    """Tell whether each cell of a picture is come to in just one way."""
    if not is_picture_form(picture):
        return False
    cells, seen = picture[4], {}
    waiting = cells_from(picture[0], picture[1:4])
    while waiting:
        number = waiting.pop()
        if number in seen:
            return False
        seen[number] = True
        _, contents, link = cells[number - 1]
        waiting.extend(cells_from(contents, [link]))
    return len(seen) == len(cells)
