"""Checks that raise the error for a thing which is not what it should be."""

from afterwise.errors import BadAsk, BadAsks, BadKind, BadMany, BadRow, BadState, Unlike
from afterwise.forms import is_below
from afterwise.plain import is_asks, is_row_of

MOST_MANY = 12


def check_asks(thing):
    """Raises an error for a thing that is no asks."""
    if not is_asks(thing):
        raise BadAsks(thing)


def check_row(asks, thing):
    """Raises an error for a thing that is no row over the asks."""
    if not is_row_of(asks, thing):
        raise BadRow(thing)


def check_ask(asks, thing):
    """Raises an error for a thing that is not one of the asks."""
    # A longer string, or the empty one, would be found in the asks as a part of them.
    if not isinstance(thing, str) or len(thing) != 1 or thing not in asks:
        raise BadAsk(thing)


def check_state(count, thing):
    """Raises an error for a thing that is no state of a store with as many states."""
    if not is_below(thing, count):
        raise BadState(thing)


def check_kind(count, thing):
    """Raises an error for a thing that is none of as many kinds."""
    if not is_below(thing, count):
        raise BadKind(thing)


def check_many(thing):
    """Raises an error for a thing that is no number of kinds that a teller may have."""
    if not is_below(thing, MOST_MANY + 1) or thing < 1:
        raise BadMany(thing)


def check_like_asks(one, other):
    """Raises an error for two things with asks whose asks are not the same."""
    if one.asks != other.asks:
        raise Unlike("asks")
