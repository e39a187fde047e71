"""Declarations of kinds: whether they are right, and what a choice kind comes to."""

from cellbills.errors import InvalidKind, InvalidList
from cellbills.words import are_strings, is_word

MOST_KINDS = 12
MOST_MAKERS = 8
MOST_PARTS = 4


def is_kind_list(value):
    """Tell whether a value is a list of at most as many strings as a thing has parts."""
    return isinstance(value, list) and len(value) <= MOST_PARTS and are_strings(value)


def is_maker(value):
    """Tell whether a value has the form of a constructor with its parts."""
    if not isinstance(value, tuple) or len(value) != 2:
        return False
    return isinstance(value[0], str) and is_kind_list(value[1])


def is_choice_form(value):
    """Tell whether a tuple of three has the form of a choice kind behind its first item."""
    name, makers = value[1:]
    if not isinstance(name, str) or not isinstance(makers, list):
        return False
    return 1 <= len(makers) <= MOST_MAKERS and all([is_maker(maker) for maker in makers])


def is_calls_form(value):
    """Tell whether a tuple of four has the form of a calls kind behind its first item."""
    name, wanted, answer = value[1:]
    return isinstance(name, str) and is_kind_list(wanted) and isinstance(answer, str)


def is_declaration_form(value):
    """Tell whether a value has the form of a declaration."""
    if not isinstance(value, tuple):
        return False
    if len(value) == 3 and value[0] == "choice":
        return is_choice_form(value)
    return len(value) == 4 and value[0] == "calls" and is_calls_form(value)


def maker_names(declaration):
    """Return the names of the constructors of a declaration, in order."""
    if declaration[0] == "calls":
        return []
    return [maker[0] for maker in declaration[2]]


def kinds_within(declaration):
    """Return the kinds that a declaration names, in order."""
    if declaration[0] == "calls":
        return declaration[2] + [declaration[3]]
    return [kind for maker in declaration[2] for kind in maker[1]]


def wrong_in_declaration(declaration, names, makers):
    """Return what is first wrong in one, but for the kinds it names; note its names."""
    if not is_declaration_form(declaration):
        return "form"
    own = maker_names(declaration)
    if not all([is_word(word) for word in [declaration[1]] + own]):
        return "name"
    if declaration[1] in names:
        return "twice"
    names[declaration[1]] = True
    for maker in own:
        if maker in makers:
            return "twice"
        makers[maker] = True
    return None


def wrong_declaration(kinds):
    """Return (number, why) of the first wrong one of a list of declarations, or None."""
    names, makers = {"num": True, "flag": True}, {}
    for number, declaration in enumerate(kinds):
        why = wrong_in_declaration(declaration, names, makers)
        if why is not None:
            return number, why
    for number, declaration in enumerate(kinds):
        if not all([kind in names for kind in kinds_within(declaration)]):
            return number, "kind"
    return None


def is_kinds(value):
    """Tell whether a value is a list of declarations."""
    if not isinstance(value, list) or len(value) > MOST_KINDS:
        return False
    return wrong_declaration(value) is None


def choice_makers(kinds):
    """Return a dict of the constructors with their parts of each choice kind."""
    return {row[1]: row[2] for row in kinds if row[0] == "choice"}


def asked_makers(kinds, name):
    """Return the dict of all choice kinds, of which the name has to be one."""
    if not is_kinds(kinds):
        raise InvalidList(kinds)
    makers = choice_makers(kinds)
    if not isinstance(name, str) or name not in makers:
        raise InvalidKind(name)
    return makers


def constructors(kinds, name):
    """Return the constructors of a choice kind with the kinds of their parts, in order."""
    makers = asked_makers(kinds, name)
    return [(maker, list(parts)) for maker, parts in makers[name]]


def come_to(makers, name):
    """Return a dict of the choice kinds to which a choice kind comes."""
    found, waiting = {name: True}, [name]
    while waiting:
        kind = waiting.pop()
        for _, parts in makers[kind]:
            for part in parts:
                if part in makers and part not in found:
                    found[part] = True
                    waiting.append(part)
    return found


def reached_in(makers, name):
    """Return the constructors of the choice kinds to which one of a dict of them comes."""
    found = come_to(makers, name)
    return [maker[0] for kind in makers for maker in makers[kind] if kind in found]


def reached(kinds, name):
    """Return the constructors of all choice kinds to which one comes, as declared."""
    return reached_in(asked_makers(kinds, name), name)
