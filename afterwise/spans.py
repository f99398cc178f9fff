"""The columns of a least machine, the views that they span, and the prices between views."""

from afterwise.errors import NotHindsight, TooMany
from afterwise.pairs import Pairs
from afterwise.serving import lowered
from afterwise.stores import Store

MOST_COLUMNS = 400
MOST_VIEWS = 400


def told_columns(teller, machine):
    """The columns of a teller, ascending, when its least machine is told too."""
    columns = columns_within(machine, MOST_COLUMNS)
    if columns is None:
        check_hindsight(teller, machine)
        raise TooMany("column")
    return columns


def check_hindsight(teller, machine):
    """Raises an error for a teller, with its least machine, that is no hindsight."""
    if isinstance(teller, Store):
        return
    pair = Pairs(machine.steps).first_endless()
    if pair is not None:
        raise NotHindsight(pair[0], pair[1])


def columns_within(machine, most):
    """The columns of a least machine, ascending, None if there are more than the most.

    They are finitely many exactly if the machine is a hindsight.
    """
    queue = [(0,) * len(machine)]
    found = {queue[0]: True}
    at = 0
    while at < len(queue):
        for number in range(len(machine.asks)):
            column, _ = pulled(machine, number, queue[at])
            if column not in found:
                if len(queue) == most:
                    return None
                found[column] = True
                queue.append(column)
        at += 1
    return tuple(sorted(queue))


def pulled(machine, number, view):
    """A view as it is ahead of the ask of a number: with its least number made 0, and this least number."""
    steps = [item[number] for item in machine]
    return lowered([add + view[then] for then, add in steps])


def closed(columns, view):
    """The closure of a view."""
    shifts = [min([high - low for high, low in zip(view, column)]) for column in columns]
    raised = [[number + shift for number in column] for column, shift in zip(columns, shifts)]
    return tuple([max(numbers) for numbers in zip(*raised)])


def spanned_views(columns, most=MOST_VIEWS):
    """The closed views with the least number 0, ascending; TooMany above the most."""
    queue = [(0,) * len(columns[0])]
    found = {queue[0]: True}
    at = 0
    while at < len(queue):
        for column in columns:
            view = lifted(queue[at], column)
            if view not in found:
                if len(queue) == most:
                    raise TooMany("view")
                found[view] = True
                queue.append(view)
        at += 1
    return tuple(sorted(queue))


def lifted(view, column):
    """The view joined with the column one higher than it fits below the view.

    By such steps, beginning from any closed view, all closed views are found.
    """
    gaps = [high - low for high, low in zip(view, column)]
    least = min(gaps)
    raised = [number + 1 if gap == least else number for number, gap in zip(view, gaps)]
    # Mostly the least number is 0 still, and nothing is to be lowered.
    return tuple(raised) if 0 in raised else lowered(raised)[0]


def begin_price(machine, view):
    """The begin price of a view in the greatest store."""
    return machine.first + view[0]


def rise(view, other):
    """The greatest number by which the other view is above the view at some kind."""
    return max([high - low for high, low in zip(other, view)])
