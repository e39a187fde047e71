"""Cells: what is free lies on a list as it is, and is taken apart when it is taken from there."""

from cellbills.values import rebuilt


def is_cell(content):
    """Tell whether a content is a cell."""
    return isinstance(content, tuple) and content[0] == "cell"


def cells_within(contents):
    """Return the list of the numbers of the cells that contents are."""
    return [content[1] for content in contents if is_cell(content)]


class Store:
    """The cells by their numbers, from 1 on: marks, contents and links, and the first free one."""

    def __init__(self, many):
        self.marks = [None] * (many + 1)
        self.contents = [()] * (many + 1)
        self.links = [0] + list(range(2, many + 1)) + [0] * min(many, 1)
        self.first = 1 if many else 0

    def put(self, number):
        """Put a cell onto the front of the list as it is, with what lies below it."""
        link = self.links[number]
        if link:
            self.contents[number] = self.contents[number] + (("cell", link),)
        self.marks[number] = None
        self.links[number] = self.first
        self.first = number

    def put_emptied(self, number):
        """Put a cell onto the front of the list whose contents were taken out of it."""
        self.contents[number] = ()
        self.marks[number] = None
        self.links[number] = self.first
        self.first = number

    def give_back(self, content):
        """Put the cell of what stood in a register onto the list, if there is one."""
        if isinstance(content, tuple) and content[0] != "bare":
            self.put(content[1])

    def take(self, mark, contents, link):
        """Take the first free cell and fill it; return its number."""
        number = self.first
        self.first = self.links[number]
        if self.contents[number]:
            below = cells_within(self.contents[number])
            for own in below:
                self.put(own)
        self.marks[number] = mark
        self.contents[number] = contents
        self.links[number] = link
        return number

    def fill(self, number, mark, contents):
        """Change the mark and the contents of a cell that does not lie on the list."""
        self.marks[number] = mark
        self.contents[number] = contents

    def leads_to(self, number):
        """Return the list of the cells to which a cell leads, by its contents and its link."""
        found = cells_within(self.contents[number])
        if self.links[number]:
            found.append(self.links[number])
        return found

    def count_free(self, most):
        """Return how many cells are free, with those below others, but at most so many."""
        waiting = [self.first] if self.first else []
        many = 0
        while waiting and many < most:
            many += 1
            waiting.extend(self.leads_to(waiting.pop()))
        return many

    def has(self, many):
        """Tell whether at least so many cells are free."""
        number, seen = self.first, 0
        while number and seen < many:
            number = self.links[number]
            seen += 1
        # Mostly those on the list are enough: then none is looked for below them.
        return seen == many or self.count_free(many) == many

    def lay(self, mark, contents, link):
        """Lay contents into cells by threes, the last one first; return the number of the first.

        The last one gets the link; without any contents there is one cell all the same.
        """
        starts = list(range(0, max(len(contents), 1), 3))
        for start in reversed(starts):
            link = self.take(mark, contents[start:start + 3], link)
        return link

    def unlay(self, number, many):
        """Free so many cells that were laid; return their contents and the link of the last."""
        contents = []
        for _ in range(many):
            link = self.links[number]
            contents.extend(self.contents[number])
            self.put_emptied(number)
            number = link
        return contents, number

    def laid_at(self, number, many):
        """Return the contents of so many cells that were laid, and the link of the last."""
        contents = []
        for _ in range(many):
            contents.extend(self.contents[number])
            number = self.links[number]
        return contents, number

    def copied(self):
        """Return another store with the same cells."""
        other = Store(0)
        other.marks = list(self.marks)
        other.contents = list(self.contents)
        other.links = list(self.links)
        other.first = self.first
        return other


def thing_in(store, heads, content):
    """Return the thing that a content is; heads tell which tags are those of functions."""
    waiting, done = [(content, False)], []
    while waiting:
        part, ready = waiting.pop()
        if not isinstance(part, tuple):
            done.append(part)
            continue
        tag, inner = part[1], ()
        if is_cell(part):
            tag, inner = store.marks[part[1]], store.contents[part[1]]
        if inner and not ready:
            waiting.append((part, True))
            waiting.extend([(own, False) for own in inner[::-1]])
            continue
        first = len(done) - len(inner)
        parts = tuple(done[first:])
        del done[first:]
        done.append(("kept" if tag in heads else "node", tag, parts))
    return done[0]


def laid_in(store, thing):
    """Lay a thing into free cells, its parts ahead of it; return the content that it is."""
    def laid(own, parts):
        """Return the content of a node or kept function whose parts are laid."""
        return ("cell", store.take(own[1], parts, 0)) if parts else ("bare", own[1])

    return rebuilt(thing, laid)
