"""Gates, which say which rows can come."""

from afterwise.checks import check_asks, check_row
from afterwise.errors import BadGate, Unlike
from afterwise.forms import as_tuples, is_below, is_tuple, is_tuple_of
from afterwise.plain import is_row_of

MOST_PLACES = 50


class Gate:
    """A gate with steps between its places; it begins at the place 0."""

    def __init__(self, asks, steps):
        check_asks(asks)
        if not is_tuple(steps) or not 1 <= len(steps) <= MOST_PLACES:
            raise BadGate(-1)
        for number, item in enumerate(steps):
            if not is_gate_item(item, len(asks), len(steps)):
                raise BadGate(number)
        self.asks = asks
        self.steps = as_tuples(steps)

    @classmethod
    def wide(cls, asks):
        """The gate with one place by which every row passes."""
        check_asks(asks)
        return cls(asks, wide_steps(asks))

    def place_of(self, row):
        """The place to which the row leads, None if it does not pass."""
        check_row(self.asks, row)
        return place_behind(self.asks, self.steps, row)

    def __contains__(self, x):
        """Whether a thing is a row that passes."""
        return is_row_of(self.asks, x) and place_behind(self.asks, self.steps, x) is not None

    def __len__(self):
        return len(self.steps)

    def __eq__(self, other):
        return isinstance(other, Gate) and self.asks == other.asks and self.steps == other.steps


def is_gate_item(thing, asks, places):
    """Whether a thing is a tuple that has a place or None for each of as many asks."""
    return is_tuple_of(thing, asks) and all([place is None or is_below(place, places) for place in thing])


def wide_steps(asks):
    """The steps of the wide gate of asks."""
    return ((0,) * len(asks),)


def steps_of_gate(asks, gate):
    """The steps of a gate that is passed beside things with these asks; None stands for the wide gate."""
    if gate is None:
        return wide_steps(asks)
    if gate.asks != asks:
        raise Unlike("gate")
    return gate.steps


def place_behind(asks, steps, row):
    """The place to which a row leads by the steps of a gate, None if it does not pass."""
    place = 0
    for ask in row:
        place = steps[place][asks.find(ask)]
        if place is None:
            return None
    return place
