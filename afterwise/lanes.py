"""Best courses that keep to some of the states of a store; sets of states are numbers, with a bit for each state."""

from afterwise.tracks import joined, mask_of, states_of


class Lanes:
    """The changes that best courses make, by the kinds of the least machine that tells what the store pays.

    The lows tell for each kind and state the least that a row costs from the state, the end price with it, less its
    gain from the kind. A best course is always where no more than its low is lost, and all such courses are best.
    """

    def __init__(self, machine, store, lows):
        self.machine = machine
        self.store = store
        self.lows = lows
        self.starts = mask_of([begin + low == machine.first for begin, low in zip(store.begins, lows[0])])
        # For each kind the states in which a best course can end.
        self.stops = [mask_of([end == low for end, low in zip(store.ends, numbers)]) for numbers in lows]
        self.known_changes = {}

    def changes(self, kind, ask):
        """For each state the states to which best courses go on by an ask from a kind."""
        key = (kind, ask)
        if key not in self.known_changes:
            then, add = self.machine.steps[kind][ask]
            behind = self.lows[then]
            self.known_changes[key] = [
                mask_of([price - add + low == here for price, low in zip(prices, behind)])
                for prices, here in zip(self.store.costs[ask], self.lows[kind])
            ]
        return self.known_changes[key]

    def led(self, kind, ask, mask):
        """The states to which best courses go on by an ask from some states."""
        changes = self.changes(kind, ask)
        return joined([changes[state] for state in states_of(mask)])

    def lost_row(self, mask):
        """A row for which no best course keeps to some states, as the numbers of its asks; None if there is none."""
        queue = [(0, self.starts & mask)]
        before = [None]
        # Where fewer states are left by one row than by another, only the one has to be followed.
        least = [[] for _ in self.stops]
        at = 0
        while at < len(queue):
            kind, there = queue[at]
            if not there & self.stops[kind]:
                return asks_to(before, at)
            for ask, (then, _) in enumerate(self.machine.steps[kind]):
                behind = self.led(kind, ask, there) & mask
                if not [less for less in least[then] if less & behind == less]:
                    least[then].append(behind)
                    queue.append((then, behind))
                    before.append((at, ask))
            at += 1
        return None

    def loses(self, mask, asks):
        """Whether no best course for a row, which is told by the numbers of its asks, keeps to some states."""
        kind, there = 0, self.starts & mask
        for ask in asks:
            there = self.led(kind, ask, there) & mask
            kind = self.machine.steps[kind][ask][0]
        return not there & self.stops[kind]

    def ways_out(self, mask, asks, order):
        """States one of which all best courses need besides some others, for a row that is lost by these others.

        They are as few as can be: with any one of them and all other states a best course is there. The states are
        tried in an order.
        """
        for state in order:
            if not mask & (1 << state) and self.loses(mask | (1 << state), asks):
                mask = mask | (1 << state)
        return mask_of([not mask & (1 << state) for state in range(len(self.store))])


def asks_to(before, at):
    """The numbers of the asks on the way to a place, when for each place the one ahead and the ask are told."""
    asks = []
    while before[at] is not None:
        at, ask = before[at]
        asks.append(ask)
    return asks[::-1]
