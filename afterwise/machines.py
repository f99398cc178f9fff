"""Machines, which tell a number for each row, and the least ones of them."""

from afterwise.checks import check_asks, check_kind, check_row
from afterwise.errors import BadMachine
from afterwise.forms import as_tuples, is_below, is_integer, is_tuple, is_tuple_of
from afterwise.kinds import follow, least_rows, least_steps, parting
from afterwise.standings import standings
from afterwise.stores import Store

MOST_KINDS = 1000


class Machine:
    """A machine with a first number and steps; it begins in the kind 0."""

    def __init__(self, asks, first, steps):
        check_asks(asks)
        if not is_integer(first) or not is_tuple(steps) or not 1 <= len(steps) <= MOST_KINDS:
            raise BadMachine(-1)
        for number, item in enumerate(steps):
            if not is_item(item, len(asks), len(steps)):
                raise BadMachine(number)
        self.asks = asks
        self.first = first
        self.steps = as_tuples(steps)
        self.rows = least_rows(asks, self.steps)

    def __call__(self, row):
        """What the machine tells for the row."""
        check_row(self.asks, row)
        return self.first + follow(self.asks, self.steps, 0, row)[1]

    def kind_of(self, row):
        """The kind to which the row leads."""
        check_row(self.asks, row)
        return follow(self.asks, self.steps, 0, row)[0]

    def sum_from(self, kind, row):
        """The gain of the row from the kind."""
        check_kind(len(self.steps), kind)
        check_row(self.asks, row)
        return follow(self.asks, self.steps, kind, row)[1]

    def least(self):
        """The least machine that tells the same for every row."""
        return Machine(self.asks, self.first, least_steps(self.steps))

    def __len__(self):
        return len(self.steps)

    def __iter__(self):
        return iter(self.steps)

    def __eq__(self, other):
        return (
            isinstance(other, Machine)
            and self.asks == other.asks
            and self.first == other.first
            and self.steps == other.steps
        )


def is_item(thing, asks, kinds):
    """Whether a thing is a tuple with a pair of a kind and an integer for each of as many asks."""
    if not is_tuple_of(thing, asks):
        return False
    for pair in thing:
        if not is_tuple_of(pair, 2) or not is_below(pair[0], kinds) or not is_integer(pair[1]):
            return False
    return True


def least_machine(teller):
    """The least machine of a teller."""
    if isinstance(teller, Store):
        first, steps = told_by_standings(teller, standings(teller))
        return Machine(teller.asks, first, least_steps(steps))
    return teller.least()


def told_by_standings(store, found):
    """The first number and the steps by which the standings of a store tell what it pays."""
    rests = [min([number + end for number, end in zip(lot, store.ends)]) for lot in found]
    steps = []
    for rest, item in zip(rests, found.steps):
        steps.append(tuple([(then, add + rests[then] - rest) for then, add in item]))
    return min(store.begins) + rests[0], tuple(steps)


def parting_row(teller, one, other):
    """The least row with unlike gains from two kinds of the teller, None if they are alike."""
    machine = least_machine(teller)
    check_kind(len(machine), one)
    check_kind(len(machine), other)
    return parting(machine.asks, machine.steps, one, other)
