"""Stores: states, and what it costs to serve an ask while going from one to another."""

from afterwise.checks import check_ask, check_asks, check_like_asks, check_state
from afterwise.errors import BadStore, TooMany
from afterwise.forms import are_integers, is_tuple, is_tuple_of

MOST_STATES = 1000


class Store:
    """A store with begins, costs and ends; its states are the numbers below their count."""

    def __init__(self, asks, begins, costs, ends):
        check_asks(asks)
        if not is_tuple(begins) or not 1 <= len(begins) <= MOST_STATES or not are_integers(begins, len(begins)):
            raise BadStore("begins")
        if not are_tables(costs, len(asks), len(begins)):
            raise BadStore("costs")
        if not are_integers(ends, len(begins)):
            raise BadStore("ends")
        self.asks = asks
        self.begins = tuple(begins)
        self.costs = tuple([tuple([tuple(row) for row in table]) for table in costs])
        self.ends = tuple(ends)

    def price(self, ask, one, other):
        """The price of the ask from the state one to the state other."""
        check_ask(self.asks, ask)
        check_state(len(self.begins), one)
        check_state(len(self.begins), other)
        return self.costs[self.asks.find(ask)][one][other]

    def __len__(self):
        return len(self.begins)

    def __eq__(self, other):
        return (
            isinstance(other, Store)
            and self.asks == other.asks
            and self.begins == other.begins
            and self.costs == other.costs
            and self.ends == other.ends
        )

    def __add__(self, other):
        """The sum of both: a state for each pair of states, which pays what both pay."""
        if not isinstance(other, Store):
            return NotImplemented
        check_like_asks(self, other)
        if len(self.begins) * len(other.begins) > MOST_STATES:
            raise TooMany("state")
        costs = [summed_tables(one, two) for one, two in zip(self.costs, other.costs)]
        return Store(self.asks, sums(self.begins, other.begins), costs, sums(self.ends, other.ends))

    def __invert__(self):
        """The store read backwards."""
        costs = [list(zip(*table)) for table in self.costs]
        return Store(self.asks, self.ends, costs, self.begins)


def are_tables(thing, asks, states):
    """Whether a thing is a tuple with a table of prices for each of as many asks."""
    return is_tuple_of(thing, asks) and all([is_table(table, states) for table in thing])


def is_table(thing, states):
    """Whether a thing is a tuple with a row of prices for each of as many states."""
    return is_tuple_of(thing, states) and all([are_integers(row, states) for row in thing])


def sums(ones, others):
    """The sum of each number of the one and each of the other, those of the first number first."""
    return [one + other for one in ones for other in others]


def summed_tables(one, other):
    """The table of a sum of stores from the tables of both."""
    return [sums(row, other_row) for row in one for other_row in other]
