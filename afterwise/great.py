"""The greatest store of a teller, and whether a teller is a hindsight at all."""

from afterwise.machines import least_machine
from afterwise.pairs import Pairs
from afterwise.spans import begin_price, pulled, rise, spanned_views, told_columns
from afterwise.stores import Store


class Hindsight:
    """Whether a teller is a hindsight: a store that pays what it tells; or a pair of kinds, a stem and a ring."""

    def __init__(self, holds, store, one, other, stem, ring):
        self.holds = holds
        self.store = store
        self.one = one
        self.other = other
        self.stem = stem
        self.ring = ring

    def __bool__(self):
        return bool(self.holds)


def great_store(teller):
    """The greatest store of a teller; its states are the views."""
    machine = least_machine(teller)
    return store_of_views(machine, spanned_views(told_columns(teller, machine)))


def store_of_views(machine, states):
    """The greatest store from a least machine and all its views."""
    numbers = {view: number for number, view in enumerate(states)}
    rises = [[rise(view, other) for other in states] for view in states]
    costs = []
    for ask in range(len(machine.asks)):
        # A view ahead of an ask is again one of the views, raised throughout, so the rises tell its prices.
        ahead = [pulled(machine, ask, view) for view in states]
        places = [(numbers[view], low) for view, low in ahead]
        costs.append([[row[number] + low for number, low in places] for row in rises])
    begins = [begin_price(machine, view) for view in states]
    return Store(machine.asks, begins, costs, [0] * len(states))


def is_hindsight(teller):
    """The verdict whether a teller is a hindsight."""
    machine = least_machine(teller)
    pairs = Pairs(machine.steps)
    pair = None
    if not isinstance(teller, Store):
        pair = pairs.first_endless()
    if pair is None:
        return Hindsight(True, kind_store(machine, pairs.distances()), None, None, None, None)
    stem, ring = pairs.endless_rows(machine.asks, pair[0], pair[1])
    return Hindsight(False, None, pair[0], pair[1], stem, ring)


def kind_store(machine, far):
    """The store with a state for each kind that pays what a least machine tells, from its distances."""
    # The view of a state is the greatest closed one that is 0 at its kind: a price is decided there alone.
    costs = []
    for ask in range(len(machine.asks)):
        steps = [item[ask] for item in machine]
        costs.append([[add + number for number in far[then]] for then, add in steps])
    begins = [machine.first + number for number in far[0]]
    return Store(machine.asks, begins, costs, [0] * len(far))
