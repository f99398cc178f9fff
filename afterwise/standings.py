"""The standings of a store: what the works behind all rows come to, up to what they share."""

from afterwise.errors import TooMany
from afterwise.serving import Serving

MOST_STANDINGS = 1000


class Standings:
    """The standings of a store, with the least rows that lead to them and the steps between them."""

    def __init__(self, rows, lots, steps):
        self.rows = rows
        self.lots = lots
        self.steps = steps

    def __len__(self):
        return len(self.lots)

    def __iter__(self):
        return iter(self.lots)


def standings(store):
    """The standings of a store; TooMany above 1,000."""
    return standings_up_to(store, MOST_STANDINGS)


def standings_up_to(store, most):
    """The standings of a store; TooMany above the most, if it is not None."""
    serving = Serving(store)
    lots = [serving.start()[0]]
    rows = [""]
    numbers = {lots[0]: 0}
    steps = []
    while len(steps) < len(lots):
        # Standings are taken in the order of their rows, so each is found first behind its least row.
        lot, row = lots[len(steps)], rows[len(steps)]
        item = []
        for ask in store.asks:
            then, add = serving.step(lot, ask)
            if then not in numbers:
                if len(lots) == most:
                    raise TooMany("standing")
                numbers[then] = len(lots)
                lots.append(then)
                rows.append(row + ask)
            item.append((numbers[then], add))
        steps.append(tuple(item))
    return Standings(tuple(rows), tuple(lots), tuple(steps))
