"""The fewest states of any store that pays what a teller tells."""

from afterwise.great import store_of_views
from afterwise.hitting import Hitting
from afterwise.lanes import Lanes
from afterwise.machines import least_machine
from afterwise.parts import part_with
from afterwise.spans import spanned_views, told_columns
from afterwise.tracks import joined, mask_of

MOST_VIEWS_TO_CHOOSE = 60


class Fewest:
    """The fewest states: their number, the views that they are, and the store that these make."""

    def __init__(self, number, views, store):
        self.number = number
        self.views = views
        self.store = store


def fewest(teller):
    """The fewest views that as the only states pay what a teller tells."""
    machine = least_machine(teller)
    columns = told_columns(teller, machine)
    views = spanned_views(columns, MOST_VIEWS_TO_CHOOSE)
    store = store_of_views(machine, views)
    lows = [[-view[kind] for view in views] for kind in range(len(machine))]
    needed = [needed_views(column, views, kind) for column in columns for kind in range(len(machine))]
    chosen = fewest_states(Lanes(machine, store, lows), needed)
    return Fewest(len(chosen), tuple([views[state] for state in chosen]), part_with(store, chosen))


def needed_views(column, views, kind):
    """The views of which best courses need one, when a row comes that leads to a kind, and then one of a column.

    They are those from which the second row costs just as much more than it gains as the view has at the kind.
    """
    marks = []
    for view in views:
        marks.append(column[kind] - view[kind] == max([low - high for low, high in zip(column, view)]))
    return mask_of(marks)


def fewest_states(lanes, needed):
    """The fewest states to which some best course for each row keeps, of several the least ones; ascending.

    Whatever states do, they have one of each set that is needed; so no fewer or lesser ones than these do.
    """
    hitting = Hitting(needed)
    while add_lost(lanes, hitting, hitting.some()):
        pass
    chosen = hitting.least()
    while add_lost(lanes, hitting, joined([1 << state for state in chosen])):
        chosen = hitting.least()
    return chosen


def add_lost(lanes, hitting, mask):
    """Adds sets of states that some states do not meet, although one of each is needed; whether there are any."""
    asks = lanes.lost_row(mask)
    if asks is None:
        return False
    order = list(range(len(lanes.store)))
    hitting.include(lanes.ways_out(mask, asks, order))
    hitting.include(lanes.ways_out(mask, asks, order[::-1]))
    return True
