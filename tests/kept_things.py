"""The condition under which a bill is enough: kept functions are such as the program keeps."""

from tests.plain_reading import all_steps


def kept_pairs(program):
    """Return the set of (kind, function) of all that the program keeps."""
    steps = [step for function in program[2] for step in all_steps(function[3])]
    return {(step[2], step[3]) for step in steps if step[0] == "keep"}


def are_kept_well(program, kinds, values):
    """Tell whether each kept function in things of these kinds is kept by the program for its kind."""
    pairs = kept_pairs(program)
    parts = {maker: own for row in program[1] if row[0] == "choice" for maker, own in row[2]}
    heads = {name: [kind for _, kind in parameters] for name, parameters, _, _ in program[2]}

    def is_well(kind, thing):
        if not isinstance(thing, tuple):
            return True
        if thing[0] == "kept":
            return (kind, thing[1]) in pairs and all(map(is_well, heads[thing[1]], thing[2]))
        return all(map(is_well, parts[thing[1]], thing[2]))
    return all(map(is_well, kinds, values))
