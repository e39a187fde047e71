"""Layouts: bodies with a pairing, the cells that are held at their steps, and their crowds."""

from cellbills.checker import ask_program, function_number
from cellbills.names import free_by_rows, kept_by_rows
from cellbills.pairing import Ahead, asked_partners, greedy_partners
from cellbills.steps import arrivals, rows_of


class Layout:
    """A body with the takes of the things that are made into cells which these left."""

    def __init__(self, parameters, look, partners):
        self.parameters = parameters
        self.rows = look.rows
        self.links = look.links
        self.body = look
        self.partners = partners
        self.emptied = {taken: True for taken in partners.values()}
        self.kept = kept_by_rows(look.rows)
        self.bound = arrivals(look.rows)
        self.held = [{} for _ in look.rows]
        for made, taken in partners.items():
            self.hold(made, taken)

    def hold(self, made, taken):
        """Note at which steps the cell of a take is held for a thing that is made."""
        at = made
        while at != taken:
            self.held[at][taken] = True
            at = self.body.rows_ahead[at][0]

    def hollow(self, at):
        """Return the numbers of the takes whose cells lie empty as a step begins, in order."""
        ahead, end = self.body.rows_ahead[at]
        found = [taken for taken in self.held[ahead] if self.partners.get(ahead) != taken]
        if ahead in self.emptied and self.body.leaves_cell(ahead, end):
            found.append(ahead)
        return sorted(found)

    def freed(self, at):
        """Return those of these takes whose cells come free as the step begins."""
        if at == 0:
            return []
        return [taken for taken in self.hollow(at) if taken not in self.held[at]]

    def crowds(self):
        """Return the list of the crowds, each a dict of names: of the parameters, then of steps."""
        free = free_by_rows(self.rows)
        found = [{name: True for name in self.parameters}]
        for at in range(1, len(self.rows)):
            crowd = {name: True for name in free[at]}
            crowd.update({name: True for name in self.bound[at]})
            ahead = self.body.rows_ahead[at][0]
            if self.rows[ahead][0] == "try":
                crowd.update({name: True for name in self.kept[ahead]})
            crowd.update({self.rows[taken][1]: True for taken in self.hollow(at)})
            found.append(crowd)
        return found


def names_of(function):
    """Return the names of the parameters of a function."""
    return [name for name, _ in function[1]]


def paired_layout(function):
    """Return the layout of a function whose things are made into the nearest cells."""
    look = Ahead(rows_of(function[3]))
    return Layout(names_of(function), look, greedy_partners(look))


def asked_layout(program, name, pairs):
    """Return the layout of a function with a right pairing, or raise the error."""
    ask_program(program)
    function = program[2][function_number(program, name)]
    look = Ahead(rows_of(function[3]))
    return Layout(names_of(function), look, asked_partners(look, pairs))
