"""Asks and rows over asks."""

from afterwise.errors import BadAsks, BadRow
from afterwise.forms import is_tuple

LETTERS = "abcdefgh"
MOST_ASKS = 4
LONGEST_ROW = 2000


def is_asks(thing):
    """Whether a thing is a string of 1 to 4 different letters from a to h, ascending."""
    if not isinstance(thing, str) or not 1 <= len(thing) <= MOST_ASKS:
        return False
    places = [LETTERS.find(letter) for letter in thing]
    return places[0] >= 0 and all([low < high for low, high in zip(places, places[1:])])


def is_row(asks, thing):
    """Whether a thing is a row over the asks."""
    if not is_asks(asks):
        raise BadAsks(asks)
    return is_row_of(asks, thing)


def is_row_of(asks, thing):
    """Whether a thing is a row over what surely are asks."""
    return isinstance(thing, str) and len(thing) <= LONGEST_ROW and all([ask in asks for ask in thing])


def ordered(asks, rows):
    """The rows of a tuple, ascending: without duplicates, by their lengths first."""
    if not is_asks(asks):
        raise BadAsks(asks)
    if not is_tuple(rows):
        raise BadRow(rows)
    for row in rows:
        if not is_row_of(asks, row):
            raise BadRow(row)
    alphabetic = sorted(set(rows))
    return tuple(sorted(alphabetic, key=len))
