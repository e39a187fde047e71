"""Another look at states, told from one to the next straight as the document says."""

from tests.plain_reading import cells, cost, deed, ends, free, kept, uses


def step_of(program, place):
    step = program[2][place[1]][3]
    for number in place[3:]:
        step = ends(step)[number]
    return step


def told(program, place, bound, frames, hand):
    """Return the state at a place, with only what is free there of what is bound."""
    names = [(name, bound[name]) for name in free(step_of(program, place))]
    return place, names, frames, hand


def begun(program, name, arguments, bound_frames, hand):
    number = [function[0] for function in program[2]].index(name)
    names = [own for own, _ in program[2][number][1]]
    return told(program, (1, number, 0), dict(zip(names, arguments)), bound_frames, hand)


def plain_first(program, name, arguments, hand):
    return begun(program, name, arguments, [], hand)


def back(program, frame, end, name, thing, frames, hand):
    """Return the state behind a frame that is left, with a name bound."""
    place, pairs = frame
    return told(program, place + (end,), {**dict(pairs), name: thing}, frames, hand)


def plain_next(program, state):
    """Return the state behind a state, or the outcome."""
    place, pairs, frames, hand = state
    step, bound = step_of(program, place), dict(pairs)
    head, things = step[0], [bound[name] for name in uses(step)]
    if head in ("num", "flag"):
        return told(program, place + (0,), {**bound, step[1]: step[2]}, frames, hand)
    if head == "deed":
        return told(program, place + (0,), {**bound, step[1]: deed(step[2], things)}, frames, hand)
    if head in ("make", "keep"):
        if things and hand == 0:
            return ("want",)
        thing = ("node", step[2], tuple(things)) if head == "make" else ("kept", step[3], tuple(things))
        left = hand - (1 if things else 0)
        return told(program, place + (0,), {**bound, step[1]: thing}, frames, left)
    if head == "take":
        _, tag, parts = things[0]
        number = [way[0] for way in step[2]].index(tag)
        more = {**bound, **dict(zip(step[2][number][1], parts))}
        return told(program, place + (number,), more, frames, hand + (1 if parts else 0))
    if head == "drop":
        return told(program, place + (0,), bound, frames, hand + cells(things[0]))
    if head == "test":
        return told(program, place + (0 if things[0] else 1,), bound, frames, hand)
    if head in ("call", "use", "try"):
        if cost(step) > hand:
            return ("want",)
        hand -= cost(step)
        frames = frames + [(place, [(name, bound[name]) for name in kept(step)])]
    if head in ("call", "try"):
        return begun(program, step[2], things, frames, hand)
    if head == "go":
        return begun(program, step[1], things, frames, hand)
    if head in ("use", "usego"):
        _, name, parts = things[0]
        return begun(program, name, list(parts) + things[1:], frames, hand + (1 if parts else 0))
    return plain_left(program, head, things[0], frames, hand)


def plain_left(program, head, thing, frames, hand):
    """Return what comes of an end or a raise."""
    while frames:
        frame, frames = frames[-1], frames[:-1]
        step = step_of(program, frame[0])
        hand += cost(step)
        if head == "end":
            return back(program, frame, 0, step[1], thing, frames, hand)
        if step[0] == "try":
            return back(program, frame, 1, step[5], thing, frames, hand)
        hand += sum(cells(own) for _, own in frame[1])
    return ("value" if head == "end" else "fault"), thing


def plain_trace(program, name, arguments, hand, steps):
    found = [plain_first(program, name, arguments, hand)]
    while len(found) <= steps and len(found[-1]) == 4:
        found.append(plain_next(program, found[-1]))
    return found
