"""Folds of stores into the greatest store of a teller."""

from afterwise.checks import check_like_asks
from afterwise.forms import are_integers, is_integer, is_tuple_of
from afterwise.kinds import follow
from afterwise.machines import least_machine
from afterwise.rests import Rests
from afterwise.serving import Table, lowered, numbered
from afterwise.spans import begin_price, pulled, rise, told_columns


class Fold:
    """Whether a store folds: a fold; or the least row for which it pays less, what is told and what it pays."""

    def __init__(self, holds, fold, row, first, second):
        self.holds = holds
        self.fold = fold
        self.row = row
        self.first = first
        self.second = second

    def __bool__(self):
        return bool(self.holds)


def folds(teller, store):
    """The verdict whether a store folds into the greatest store of a teller."""
    check_like_asks(teller, store)
    machine = least_machine(teller)
    # The columns are asked for their errors only.
    told_columns(teller, machine)
    rests = Rests(machine.steps, store)
    begun = [begin - machine.first for begin in store.begins]
    while least_sum_of(begun, rests.lows[0]) >= 0:
        if not rests.lower():
            # The numbers of a state, made negative, are a greatest sum of columns, and so a closed view.
            views = [[-number for number in numbers] for numbers in zip(*rests.lows)]
            return Fold(True, tuple([lowered(view) for view in views]), None, None, None)
    row, less = least_cheaper_row(machine, store, rests, begun)
    first = machine.first + follow(machine.asks, machine.steps, 0, row)[1]
    return Fold(False, None, row, first, first + less)


def least_cheaper_row(machine, store, rests, begun):
    """The least row for which the store pays less than the machine tells, and the difference, below 0."""
    tables = [Table(table) for table in store.costs]
    row, kind, work = [], 0, begun
    while len(row) < rests.rounds:
        left = rests.rounds - len(row) - 1
        for number, (then, add) in enumerate(machine.steps[kind]):
            there = [total - add for total in tables[number].served(work)]
            # No row with fewer asks is cheaper, so one with at most as many asks as are left has just as many.
            if least_sum_of(there, rests.lows_by(then, left)) < 0:
                row.append(machine.asks[number])
                kind, work = then, there
                break
    return "".join(row), least_sum_of(work, store.ends)


def least_sum_of(ones, others):
    """The least sum of two numbers at the same place."""
    return min([one + other for one, other in zip(ones, others)])


def judge_fold(teller, store, fold):
    """Whether a thing is a fold of the store into the greatest store of the teller."""
    check_like_asks(teller, store)
    machine = least_machine(teller)
    columns = told_columns(teller, machine)
    pairs = pairs_of_fold(fold, len(store), len(machine))
    if pairs is None:
        return False
    views, shifts = [view for view, _ in pairs], [shift for _, shift in pairs]
    for view in numbered(views)[0]:
        if min(view) != 0 or not is_closed(columns, view):
            return False
    for begin, end, view, shift in zip(store.begins, store.ends, views, shifts):
        if begin < begin_price(machine, view) + shift or end + shift < 0:
            return False
    for number, table in enumerate(store.costs):
        if not fits(machine, number, table, views, shifts):
            return False
    return True


def pairs_of_fold(thing, states, kinds):
    """The pairs of a tuple of integers, one for each kind, and an integer, for each state; None for other forms."""
    if not is_tuple_of(thing, states):
        return None
    pairs = []
    for pair in thing:
        if not is_tuple_of(pair, 2) or not are_integers(pair[0], kinds) or not is_integer(pair[1]):
            return None
        pairs.append((tuple(pair[0]), pair[1]))
    return pairs


def is_closed(columns, view):
    """Whether a view is its own closure."""
    # A column that is raised as far as it goes meets the view at some kinds; all have to be met.
    left = list(range(len(view)))
    for column in columns:
        gaps = [high - low for high, low in zip(view, column)]
        least = min(gaps)
        left = [kind for kind in left if gaps[kind] > least]
        if not left:
            return True
    return False


def fits(machine, number, table, views, shifts):
    """Whether the table of an ask has no price that is too low for a fold with these views and shifts."""
    kept, places = numbered(views)
    # A view ahead of an ask is a view again, raised throughout; many of them are the same one.
    pulls = [pulled(machine, number, view) for view in kept]
    ahead, places_ahead = numbered([view for view, _ in pulls])
    rises = [[rise(view, other) for other in ahead] for view in kept]
    tos = [places_ahead[place] for place in places]
    amounts = [pulls[place][1] + shift for place, shift in zip(places, shifts)]
    for prices, place, shift in zip(table, places, shifts):
        least = rises[place]
        if any([price + shift < least[to] + amount for price, to, amount in zip(prices, tos, amounts)]):
            return False
    return True
