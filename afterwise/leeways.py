"""How far a price can be moved while the store pays the same for every row."""

from afterwise.checks import check_ask, check_state
from afterwise.tracks import Tracks, mask_of


def leeway(store, ask, one, other):
    """The least and the greatest price with which the store pays the same; None if there is no greatest one."""
    check_ask(store.asks, ask)
    check_state(len(store), one)
    check_state(len(store), other)
    number = store.asks.find(ask)
    tracks = Tracks(store, (number, one, other))
    price = store.costs[number][one][other]
    lowering = Lowering(tracks, number, one, other)
    low = lowering.price_for_one_use()
    if low == price:
        # Some best course makes this change. As soon as the price rises, others have to do without it.
        every = mask_of([True] * len(store))
        return price, (None if tracks.never_lost(0, every) else price)
    more = lowering.lacking(low)
    while more > 0:
        low = low + more
        more = lowering.lacking(low)
    return low, None


class Lowering:
    """What courses pay more than the store does, at the least, when one price is lowered.

    It is told for each kind and state, behind all rows that lead to the kind.
    """

    def __init__(self, tracks, number, one, other):
        self.tables = tracks.store.costs
        self.steps = tracks.machine_steps
        self.number = number
        self.one = one
        self.other = other
        # What courses lack from there on, and what they have paid too much up to there.
        self.lows = tracks.lows
        heads = [None] * len(tracks.machine_steps)
        for kind, lot, amount in zip(tracks.kinds, tracks.lots, tracks.amounts):
            head = [low - amount for low in lot]
            if heads[kind] is not None:
                head = [min(pair) for pair in zip(head, heads[kind])]
            heads[kind] = head
        self.heads = heads
        # These change while a price is tried: the numbers, and for each the last use of the price on the way.
        self.numbers = []
        self.last_uses = []
        self.uses = []

    def price_for_one_use(self):
        """The least price with which no course that pays it once becomes too cheap."""
        prices = []
        for kind, item in enumerate(self.steps):
            then, add = item[self.number]
            prices.append(add - self.heads[kind][self.one] - self.lows[then][self.other])
        return max(prices)

    def lacking(self, price):
        """How much a price has to rise at least lest some row becomes cheaper; 0 if none does."""
        self.numbers = [list(head) for head in self.heads]
        self.last_uses = [[None] * len(head) for head in self.heads]
        self.uses = []
        kinds = list(range(len(self.steps)))
        while kinds:
            landed = {}
            for kind in kinds:
                then, add = self.steps[kind][self.number]
                number = self.numbers[kind][self.one] + price - add
                if number < self.numbers[then][self.other]:
                    lack = self.use(kind, number, then)
                    if lack > 0:
                        return lack
                    landed[then] = [self.other]
            kinds = self.spread(landed)
        return 0

    def use(self, kind, number, then):
        """Notes a use of the price from a kind, with the number behind it; how much the price lacks by this."""
        before = self.last_uses[kind][self.one]
        count = 1 if before is None else self.uses[before][2] + 1
        missing = number + self.lows[then][self.other]
        if missing < 0:
            return -(missing // count)
        while before is not None:
            earlier, earlier_number, earlier_count, before = self.uses[before]
            if earlier == kind:
                # From this use to the earlier one of the same kind the way goes round and becomes ever cheaper.
                return -((number - earlier_number) // (count - earlier_count))
        self.uses.append((kind, number, count, self.last_uses[kind][self.one]))
        self.numbers[then][self.other] = number
        self.last_uses[then][self.other] = len(self.uses) - 1
        return 0

    def spread(self, landed):
        """Lowers the numbers behind those that came down; the kinds at whose one state the number came down."""
        kinds = {}
        turned = landed
        while turned:
            behind = {}
            for kind, states in turned.items():
                if self.one in states:
                    kinds[kind] = True
                for table, (then, add) in zip(self.tables, self.steps[kind]):
                    for state in states:
                        self.lower_behind(table[state], kind, state, then, add, behind)
            turned = {kind: sorted(set(states)) for kind, states in behind.items()}
        return list(kinds)

    def lower_behind(self, prices, kind, state, then, add, behind):
        """Lowers the numbers of a kind to what the prices from a state allow; the states go to those behind."""
        here = self.numbers[kind][state] - add
        numbers = self.numbers[then]
        for other, price in enumerate(prices):
            if here + price < numbers[other]:
                numbers[other] = here + price
                self.last_uses[then][other] = self.last_uses[kind][state]
                behind.setdefault(then, []).append(other)
