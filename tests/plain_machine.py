"""Another machine, written as the document tells it: the free cells stand in a plain list."""

from tests.plain_reading import deed


class Stop(Exception):
    def __init__(self, *outcome):
        self.outcome = outcome


def is_owned(content):
    return isinstance(content, tuple) and content[0] in ("bare", "cell")


def is_hollow(content):
    return isinstance(content, tuple) and content[0] == "hollow"


def is_num(content):
    return isinstance(content, int) and not isinstance(content, bool)


class PlainMachine:

    def __init__(self, program, listing, name, arguments, cells):
        self.rows = dict(listing)
        self.wants = {function[0]: len(function[1]) for function in program[2]}
        self.free = list(range(1, cells + 1))
        self.marks = {number: None for number in self.free}
        self.contents = {number: () for number in self.free}
        # The links of cells that don't lie on the list.
        self.links = {number: 0 for number in self.free}
        self.slots = [self.lay(thing) for thing in arguments]
        self.slots += [None] * (64 - len(self.slots))
        self.frame = self.handler = self.done = self.at = 0
        self.name = name
        self.outcome = None

    def lay(self, thing):
        if not isinstance(thing, tuple):
            return thing
        parts = tuple([self.lay(part) for part in thing[2]])
        return ("cell", self.take(thing[1], parts, 0)) if parts else ("bare", thing[1])

    def put(self, number):
        if self.links[number]:
            self.contents[number] += (("cell", self.links[number]),)
        self.links[number] = 0
        self.marks[number] = None
        self.free.insert(0, number)

    def take(self, mark, contents, link):
        number = self.free.pop(0)
        for content in self.contents[number]:
            if isinstance(content, tuple) and content[0] == "cell":
                self.put(content[1])
        self.marks[number], self.contents[number], self.links[number] = mark, contents, link
        return number

    def loose(self, content):
        """Give back what stood in a register."""
        if isinstance(content, tuple) and content[0] != "bare":
            self.put(content[1])

    def below(self, number):
        inner = [content[1] for content in self.contents[number]
                 if isinstance(content, tuple) and content[0] == "cell"]
        found, waiting = 0, inner + [self.links[number]] * (self.links[number] > 0)
        for own in waiting:
            found += 1 + self.below(own)
        return found

    def available(self):
        return sum(1 + self.below(number) for number in self.free)

    def picture(self):
        ahead = dict(zip(self.free, self.free[1:] + [0]))
        cells = [(self.marks[number], self.contents[number], ahead.get(number, self.links[number]))
                 for number in sorted(self.marks)]
        return list(self.slots), self.frame, self.handler, self.free[0] if self.free else 0, cells

    def thing(self, content):
        if not isinstance(content, tuple):
            return content
        tag, parts = self.opened(content)
        sort = "kept" if tag in self.wants else "node"
        return sort, tag, tuple(self.thing(part) for part in parts)

    def opened(self, content):
        if content[0] == "bare":
            return content[1], ()
        return self.marks[content[1]], self.contents[content[1]]

    def need(self, told):
        if not told:
            raise Stop("stuck")

    def step(self):
        if self.outcome is not None:
            return self.outcome
        try:
            self.need(self.at < len(self.rows[self.name]))
            row = self.rows[self.name][self.at]
            getattr(self, "do_" + row[0])(*row[1:])
        except Stop as stop:
            self.outcome = stop.outcome
            if len(stop.outcome) == 1:
                return self.outcome
            self.at += 1
        self.done += 1
        return self.outcome

    def hold(self, r, content):
        old, self.slots[r] = self.slots[r], content
        self.loose(old)

    def picked(self, sources):
        """Return contents of which something is made; they stay in the registers as yet."""
        found = [self.slots[s] for s in sources]
        for number, content in enumerate(found):
            self.need(is_num(content) or isinstance(content, bool) or is_owned(content))
            self.need(not is_owned(content) or sources.count(sources[number]) == 1)
        return tuple(found)

    def emptied(self, sources):
        for s in sources:
            if isinstance(self.slots[s], tuple):
                self.slots[s] = None

    def want(self, cells):
        if cells > self.available():
            raise Stop("want")

    def do_num(self, r, number):
        self.hold(r, number)
        self.at += 1

    do_flag = do_num

    def do_move(self, r, s):
        content = self.slots[s]
        self.need(content is not None)
        self.emptied([s])
        self.do_num(r, content)

    def do_deed(self, r, sign, sources):
        things = [self.slots[s] for s in sources]
        for thing in things:
            self.need(isinstance(thing, bool) if sign in ("both", "any", "not") else is_num(thing))
        self.do_num(r, deed(sign, things))

    def do_build(self, r, tag, sources):
        contents = self.picked(sources)
        self.want(1 if contents else 0)
        self.emptied(sources)
        self.do_num(r, ("cell", self.take(tag, contents, 0)) if contents else ("bare", tag))

    def do_take(self, s, ways, part=False):
        content = self.slots[s]
        self.need(is_owned(content))
        tag, parts = self.opened(content)
        ways = [way for way in ways if way[0] == tag and len(way[1]) == len(parts)]
        self.need(ways)
        self.need(not (part and parts and s in ways[0][1]))
        self.slots[s] = None
        if parts:
            self.contents[content[1]], self.marks[content[1]] = (), ""
            if part:
                self.slots[s] = ("hollow", content[1])
            else:
                self.put(content[1])
        for r, own in zip(ways[0][1], parts):
            self.hold(r, own)
        self.at = ways[0][2]

    def do_part(self, s, ways):
        self.do_take(s, ways, True)

    def do_refill(self, r, s, tag, sources):
        hollow = self.slots[s]
        self.need(is_hollow(hollow))
        contents = self.picked(sources)
        self.slots[s] = None
        self.emptied(sources)
        self.marks[hollow[1]], self.contents[hollow[1]] = tag, contents
        self.do_num(r, ("cell", hollow[1]))

    def do_free(self, s):
        self.need(is_hollow(self.slots[s]))
        self.do_num(s, None)

    def do_drop(self, s):
        self.need(is_owned(self.slots[s]))
        self.do_num(s, None)

    def do_test(self, s, place):
        self.need(isinstance(self.slots[s], bool))
        self.at = self.at + 1 if self.slots[s] else place

    def laid(self, word, contents, link):
        mark = (word, self.name, self.at)
        pieces = [contents[at:at + 3] for at in range(0, len(contents), 3)] or [()]
        for piece in pieces[::-1]:
            link = self.take(mark, piece, link)
        return link

    def do_push(self, r, place, sources):
        contents = self.picked(sources)
        self.want(max(1, (len(contents) + 2) // 3))
        self.emptied(sources)
        self.frame = self.laid("frame", contents, self.frame)
        self.at += 1

    def do_handle(self, r, place, n, other, sources):
        contents = self.picked(sources)
        self.want((len(contents) + 4) // 3)
        self.emptied(sources)
        ahead = tuple(("cell", own) if own else None for own in (self.frame, self.handler))
        self.handler, self.frame = self.laid("handler", ahead + contents, 0), 0
        self.at += 1

    def start(self, name, slots, taken):
        """Begin a function; taken are the registers that were moved."""
        for s in range(64):
            if s not in taken:
                self.loose(self.slots[s])
        self.slots = slots + [None] * (64 - len(slots))
        self.name, self.at = name, 0

    def do_jump(self, name):
        many = self.wants[name]
        self.start(name, self.slots[:many], range(many))

    def do_enter(self, j):
        content = self.slots[j]
        self.need(is_owned(content))
        tag, parts = self.opened(content)
        self.need(tag in self.wants and self.wants[tag] == len(parts) + j)
        if parts:
            self.contents[content[1]] = ()
            self.put(content[1])
        self.start(tag, list(parts) + self.slots[:j], range(j + 1))

    def apart(self, number):
        """Take a frame or handler apart; return its row, its contents and what it hung on."""
        mark, contents = self.marks[number], ()
        row = self.rows[mark[1]][mark[2]]
        for _ in range(max(1, (len(row[-1]) + (2 if mark[0] == "frame" else 4)) // 3)):
            contents += self.contents[number]
            link = self.links[number]
            self.contents[number], self.links[number] = (), 0
            self.put(number)
            number = link
        self.name = mark[1]
        return row, contents, link

    def clear(self):
        for s in range(64):
            self.loose(self.slots[s])
            self.slots[s] = None

    def back(self):
        """Leave the frame or the handler; return its row, None if there is none."""
        if self.frame:
            row, contents, self.frame = self.apart(self.frame)
        elif self.handler:
            row, contents, _ = self.apart(self.handler)
            self.frame, self.handler = [own[1] if own else 0 for own in contents[:2]]
            contents = contents[2:]
        else:
            return None
        for r, content in zip(row[-1], contents):
            self.slots[r] = content
        return row

    def do_return(self, s):
        content = self.slots[s]
        self.need(content is not None and not is_hollow(content))
        if isinstance(content, tuple):
            self.slots[s] = None
        self.clear()
        row = self.back()
        if row is None:
            self.slots[0] = content
            raise Stop("value", self.thing(content))
        self.slots[row[1]] = content
        self.at = row[2]

    def do_raise(self, s):
        number = self.slots[s]
        self.need(is_num(number))
        self.clear()
        if self.frame:
            self.put(self.frame)
        self.frame = 0
        row = self.back()
        if row is None:
            raise Stop("fault", number)
        self.slots[row[3]] = number
        self.at = row[4]
