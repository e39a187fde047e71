"""Slacks: by how much the cells in hand are more than what a bill asks for, state by state."""

from cellbills.accounts import CALLING, Account, changes_at
from cellbills.funds import fund_of, weighed, weighed_of
from cellbills.judged import ask_bill
from cellbills.names import KEEPING
from cellbills.papers import MOST_STEPS_TRACED
from cellbills.plans import free_at
from cellbills.ratios import fraction, scaled
from cellbills.reading import Reading, ask_hand, ask_reading, ask_steps, read_step
from cellbills.tariffs import Tariff


class Weighing(Reading):
    """A reading whose things are weighed."""

    def owned(self, sort, tag, parts):
        """Return a weighed node or kept function."""
        return weighed_of(sort, tag, parts)

    def noted(self, thing):
        """Return a thing as this reading holds it."""
        return weighed(thing)


class Asking:
    """What a bill asks for along a reading; all sums are scaled to whole numbers."""

    def __init__(self, program, bill):
        self.tariff = Tariff(program)
        self.amounts, self.scale = scaled(bill)
        # By the numbers of functions: their accounts, and the hands at their rows.
        self.accounts = {}
        self.hands = {}
        # Of each frame what it asks, and what the goes of its function were more.
        self.frames = []
        self.beyond = 0

    def account_of(self, plan):
        """Return the account of a function."""
        if plan.number not in self.accounts:
            account = Account(self.tariff, plan)
            self.accounts[plan.number] = account
            self.hands[plan.number] = self.hands_of(account)
        return self.accounts[plan.number]

    def hands_of(self, account):
        """Return the list of the hands at the rows of a function."""
        hands = [0] * len(account.plan.rows)
        hands[0] = self.amounts[account.own.wants]
        for at, ends in enumerate(account.plan.links):
            for end, (pairs, whole) in zip(ends, changes_at(account, at)):
                hands[end] = hands[at] + whole * self.scale + self.worth(pairs)
        return hands

    def worth(self, pairs):
        """Return the sum of the rates of unknowns, each so often."""
        return sum([self.amounts[number] * often for number, often in pairs])

    def fund(self, account, names, bound):
        """Return the sum of the funds of names of a function that are bound to things."""
        tables = account.tables
        return sum([self.worth(fund_of(self.tariff, tables.get(name), bound[name])) for name in names])

    def asked(self, reading):
        """Return all that is asked where a reading stands."""
        plan, at = reading.plan, reading.number
        account = self.account_of(plan)
        here = self.hands[plan.number][at] + self.fund(account, free_at(plan, at), reading.bound)
        return here + self.beyond + sum([frame + beyond for frame, beyond in self.frames])

    def asked_meanwhile(self, reading):
        """Return what the frame that is laid at the step read next asks, 0 if it lays none.

        Behind it stands by how much the hand is more than what is wanted there.
        """
        plan, at = reading.plan, reading.number
        account, row = self.account_of(plan), reading.row()
        if row[0] not in CALLING:
            return 0, 0
        more = self.hands[plan.number][at] - self.amounts[account.called(row).wants]
        if row[0] not in KEEPING:
            return 0, more
        kept = self.fund(account, plan.kept[at], reading.bound)
        return more - plan.costs[at] * self.scale + kept, more

    def read(self, reading):
        """Read a step; return whether the reading goes on behind it."""
        head = reading.row()[0]
        frame, more = self.asked_meanwhile(reading)
        if read_step(reading) is not None:
            return False
        if head in KEEPING:
            self.frames.append((frame, self.beyond))
            self.beyond = 0
        elif head in ("go", "usego"):
            self.beyond += more
        # An end or a raise goes on with the function that laid the frame it came back to.
        while len(self.frames) > len(reading.frames):
            _, self.beyond = self.frames.pop()
        return True


def slacks(program, bill, name, arguments, hand, steps):
    """Return for each state of a trace by which fraction its hand is more than what is asked."""
    ask_bill(program, bill)
    ask_reading(program, name, arguments)
    ask_hand(hand)
    ask_steps(steps, MOST_STEPS_TRACED)
    asking, reading = Asking(program, bill), Weighing(program, hand)
    reading.begin(name, [reading.noted(thing) for thing in arguments])
    found = []
    for number in range(steps + 1):
        slack = reading.hand * asking.scale - asking.asked(reading)
        found.append(fraction(slack, asking.scale))
        if number == steps or not asking.read(reading):
            break
    return found
