"""What rows cost at the least from the states of a store, beside what they gain from the kinds of a machine."""

from afterwise.serving import Table


class Rests:
    """For each kind of a machine and each state of a store the least that a row costs from the state, the end price
    with it, less its gain from the kind.

    They begin with the empty row; each lowering lets the rows have one ask more.
    """

    def __init__(self, steps, store):
        self.store = store
        self.lows = [list(store.ends) for _ in steps]
        self.rounds = 0
        # For each kind the rounds in which its numbers came down, and the numbers since then.
        self.records = [[(0, low)] for low in self.lows]
        self.turned = {kind: list(range(len(store))) for kind in range(len(steps))}
        # For each kind and ask the kinds from which the ask leads to it, with the adds.
        origins = [[[] for _ in store.asks] for _ in steps]
        for kind, item in enumerate(steps):
            for number, (then, add) in enumerate(item):
                origins[then][number].append((kind, add))
        self.origins = origins
        # For each ask and state the prices from all states to it.
        self.prices = [list(zip(*table)) for table in store.costs]
        self.tables = {}

    def lower(self):
        """Lets the rows have one ask more; whether some number came down by this."""
        found = {}
        for then, states in self.turned.items():
            for number, kinds in enumerate(self.origins[then]):
                if kinds:
                    sums = self.served_to(number, self.lows[then], states)
                    for kind, add in kinds:
                        numbers = [total - add for total in sums]
                        if kind in found:
                            numbers = [min(pair) for pair in zip(numbers, found[kind])]
                        found[kind] = numbers
        self.rounds += 1
        self.turned = {}
        for kind, numbers in found.items():
            old = self.lows[kind]
            states = [state for state, number in enumerate(numbers) if number < old[state]]
            if states:
                self.turned[kind] = states
                self.lows[kind] = [min(pair) for pair in zip(old, numbers)]
                self.records[kind].append((self.rounds, self.lows[kind]))
        return len(self.turned) > 0

    def lower_all(self):
        """Lowers until nothing comes down; not for a store that pays less than the machine tells for some row."""
        while self.lower():
            pass

    def served_to(self, number, lows, states):
        """For each state the least sum of a price of an ask to one of the states told and the number there."""
        if len(states) > max(4, len(lows) // 16):
            if number not in self.tables:
                self.tables[number] = Table(self.prices[number])
            return self.tables[number].served(lows)
        sums = [price + lows[states[0]] for price in self.prices[number][states[0]]]
        for state in states[1:]:
            low = lows[state]
            sums = [min(total, price + low) for total, price in zip(sums, self.prices[number][state])]
        return sums

    def lows_by(self, kind, asks):
        """The numbers of a kind as they were when rows had at most so many asks."""
        records = self.records[kind]
        first, last = 0, len(records)
        while last - first > 1:
            middle = (first + last) // 2
            if records[middle][0] <= asks:
                first = middle
            else:
                last = middle
        return records[first][1]
