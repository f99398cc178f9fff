"""Stores joined and turned: sums, stores read backwards, rows put for asks, and what is behind or ahead of a row."""

from afterwise.checks import check_asks, check_row
from afterwise.courses import rests_along, work_behind
from afterwise.errors import BadBook
from afterwise.forms import is_tuple_of
from afterwise.plain import is_row_of
from afterwise.serving import Serving, lowered
from afterwise.stores import Store


def summed(one, other):
    """The sum of two stores, which pays what both pay together."""
    return one + other


def backwards(store):
    """The store read backwards."""
    return ~store


def put_for(store, asks, rows):
    """The store over new asks with a row of the old ones put for each of them."""
    check_asks(asks)
    if not is_book(store.asks, rows, len(asks)):
        raise BadBook(rows)
    legs = Legs(store)
    return Store(asks, store.begins, [legs.table_of_row(row) for row in rows], store.ends)


def behind(store, row):
    """What is left of the store behind a row."""
    check_row(store.asks, row)
    return Store(store.asks, work_behind(Serving(store), row), store.costs, store.ends)


def ahead(store, row):
    """What leads up to a row with the store."""
    check_row(store.asks, row)
    return Store(store.asks, store.begins, store.costs, rests_along(store, row)[0])


def is_book(asks, thing, count):
    """Whether a thing is a tuple of as many rows over the asks, none of them empty."""
    return is_tuple_of(thing, count) and all([is_row_of(asks, row) and row != "" for row in thing])


class Legs:
    """What courses of rows pay at the least between two states, without begin and end prices."""

    def __init__(self, store):
        self.store = store
        self.serving = Serving(store)
        # Standings have numbers here, so that a standing that comes again is looked up quickly.
        self.standings = []
        self.numbers = {}
        self.known = {}

    def table_of_row(self, row):
        """For each state the least that courses of a row pay that lead from there to each state."""
        begun = [lowered(prices) for prices in self.store.costs[self.store.asks.find(row[0])]]
        starts = [self.number_of_standing(standing) for standing, _ in begun]
        ends = {start: (start, 0) for start in starts}
        for ask in row[1:]:
            steps = {number: self.led(number, ask) for number in sorted(set([number for number, _ in ends.values()]))}
            ends = {start: (steps[number][0], amount + steps[number][1]) for start, (number, amount) in ends.items()}
        table = []
        for start, (_, low) in zip(starts, begun):
            number, amount = ends[start]
            table.append([price + low + amount for price in self.standings[number]])
        return table

    def number_of_standing(self, standing):
        """The number of a standing, a new one for a new standing."""
        if standing not in self.numbers:
            self.numbers[standing] = len(self.standings)
            self.standings.append(standing)
        return self.numbers[standing]

    def led(self, number, ask):
        """The number of the standing behind a standing and an ask, and what the least work grows by."""
        key = (number, ask)
        if key not in self.known:
            then, add = self.serving.step(self.standings[number], ask)
            self.known[key] = (self.number_of_standing(then), add)
        return self.known[key]
