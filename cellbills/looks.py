"""Looks: a body as it stands between two rewritings, with what the rules ask about it."""

from cellbills.names import kept_by_rows
from cellbills.printer import new_declaration
from cellbills.steps import links_of, rows_of, step_of, used_names
from cellbills.tables import is_owned, kinds_of_names, table_of

PLAIN = ("num", "flag", "deed", "make", "keep", "drop")


class Look:
    """The rows of a body, what they lead to, and which of them bind and use the names."""

    def __init__(self, table, function, rows):
        self.table = table
        self.name, self.parameters = function[:2]
        self.rows = rows
        self.links = links_of(rows)
        # Of each name a row that uses it: of an owned one the only one, if it follows plainly.
        self.users = {name: at for at, row in enumerate(rows) for name in used_names(row)}
        # Of each row, the first one from it on that is not plain.
        self.stops = list(range(len(rows)))
        for at in reversed(range(len(rows) - 1)):
            if rows[at][0] in PLAIN:
                self.stops[at] = self.stops[at + 1]
        self.known = {row[1]: row for row in rows if row[0] in ("num", "flag")}
        # These are made when they are first asked for: few rules need them.
        self.kinds = None
        self.kept = None

    def plain_user(self, at):
        """Return the row that uses what a row with one end binds if it follows plainly, or None."""
        # Plain steps have one end each, so their rows stand one behind the other.
        user = self.users.get(self.rows[at][1])
        if user is None or user > self.stops[at + 1]:
            return None
        return user

    def behind(self, at):
        """Return the number that follows those of the rows of a step and of all behind it."""
        while self.links[at]:
            at = self.links[at][-1]
        return at + 1

    def kinds_of_all(self):
        """Return the dict of the kinds of all names of the body."""
        if self.kinds is None:
            self.kinds = kinds_of_names(self.table, self.parameters, self.rows)
        return self.kinds

    def owned_kept(self, at):
        """Return the owned names that the step of a row keeps."""
        if self.kept is None:
            self.kept = kept_by_rows(self.rows)
        kinds = self.kinds_of_all()
        return [name for name in self.kept[at] if is_owned(kinds[name])]


class Bench:
    """The bodies of a program while they are rewritten."""

    def __init__(self, program):
        self.declarations = program[1]
        self.functions = program[2]
        self.table = table_of(program)
        self.numbers = {function[0]: number for number, function in enumerate(program[2])}
        self.rows = [rows_of(function[3]) for function in program[2]]
        self.looks = {}

    def look(self, number):
        """Return the look at the body of a function."""
        if number not in self.looks:
            self.looks[number] = Look(self.table, self.functions[number], self.rows[number])
        return self.looks[number]

    def change(self, number, rows):
        """Change the body of a function."""
        self.rows[number] = rows
        self.looks.pop(number, None)

    def program(self):
        """Return the program as it stands; all lists in it are new."""
        functions = [(name, list(parameters), answer, step_of(rows))
                     for (name, parameters, answer, _), rows in zip(self.functions, self.rows)]
        return "program", [new_declaration(row) for row in self.declarations], functions
