"""In which states best courses can be, ask by ask; sets of states are numbers here, with a bit for each state."""

from afterwise.kinds import least_steps
from afterwise.machines import told_by_standings
from afterwise.rests import Rests
from afterwise.serving import Table, least_of_groups
from afterwise.standings import standings


class Tracks:
    """The states of best courses behind each standing of a store.

    A gap, an ask's number and two states, is a change that the courses may not make.
    """

    def __init__(self, store, gap=None):
        found = standings(store)
        self.store = store
        self.gap = gap
        self.lots = found.lots
        self.steps = found.steps
        self.machine_steps = least_steps(told_by_standings(store, found)[1])
        self.kinds = kinds_of_standings(found.steps, self.machine_steps)
        # What a standing costs with the ends, so that what comes to this sum at a state is best there.
        self.amounts = [min([low + end for low, end in zip(lot, store.ends)]) for lot in found]
        rests = Rests(self.machine_steps, store)
        rests.lower_all()
        self.lows = rests.lows
        self.useful = [self.useful_states(number) for number in range(len(found))]
        self.ended = [
            mask_of([low + end == amount for low, end in zip(lot, store.ends)])
            for lot, amount in zip(found, self.amounts)
        ]
        self.tables = [Table(table) for table in store.costs]
        self.known_ties = {}
        self.known_steps = {}
        # For each standing sets of states that are never lost; nor are greater ones.
        self.lasting = [[] for _ in found.lots]

    def useful_states(self, number):
        """The states behind a standing in which some best course for some longer row is."""
        lows, amount = self.lows[self.kinds[number]], self.amounts[number]
        return mask_of([here + low == amount for here, low in zip(self.lots[number], lows)])

    def ties(self, number, ask):
        """For each unlike column of an ask's table the states with it, and those from which their work comes."""
        key = (number, ask)
        if key not in self.known_ties:
            table, lot = self.tables[ask], self.lots[number]
            least = least_of_groups(lot, table.groups)
            masks = [0] * len(least)
            for state, (group, low) in enumerate(zip(table.groups, lot)):
                if low == least[group]:
                    masks[group] = masks[group] | (1 << state)
            sources = [joined([masks[place] for place in places]) for places in table.sources(lot)]
            self.known_ties[key] = list(zip(column_masks(table.places), sources))
        return self.known_ties[key]

    def led(self, number, ask, mask):
        """The useful states in which courses are behind an ask that were in some of the states and are best."""
        key = (number, ask, mask)
        if key not in self.known_steps:
            ties = self.ties(number, ask)
            there = joined([targets for targets, sources in ties if mask & sources])
            if self.gap is not None and self.gap[0] == ask:
                _, one, other = self.gap
                sources = [sources for targets, sources in ties if targets & (1 << other)][0]
                if not mask & sources & ~(1 << one):
                    there = there & ~(1 << other)
            self.known_steps[key] = there & self.useful[self.steps[number][ask][0]]
        return self.known_steps[key]

    def led_back(self, number, ask, mask):
        """The states ahead of an ask from which a best work leads to some of the states behind it."""
        return joined([sources for targets, sources in self.ties(number, ask) if mask & targets])

    def never_lost(self, number, mask):
        """Whether for every row behind a standing some best course is there in one of the states."""
        queue = [(number, mask & self.useful[number])]
        found = {}
        at = 0
        while at < len(queue):
            number, mask = queue[at]
            at += 1
            if not mask & self.ended[number]:
                return False
            for ask, (then, _) in enumerate(self.steps[number]):
                there = self.led(number, ask, mask)
                masks = found.setdefault(then, list(self.lasting[then]))
                if not [less for less in masks if less & there == less]:
                    masks.append(there)
                    queue.append((then, there))
        for then, masks in found.items():
            self.lasting[then] = masks
        return True


def kinds_of_standings(steps, least):
    """The kind of the least machine for each standing, when the steps of both are told."""
    kinds = [0] * len(steps)
    for number, item in enumerate(steps):
        # Each standing but the first stands behind one ahead of it and an ask.
        for ask, (then, _) in enumerate(item):
            if then > number:
                kinds[then] = least[kinds[number]][ask][0]
    return kinds


def mask_of(marks):
    """The set of those states whose mark is true."""
    return joined([1 << state for state, mark in enumerate(marks) if mark])


def joined(masks):
    """All states of several sets."""
    whole = 0
    for mask in masks:
        whole = whole | mask
    return whole


def states_of(mask):
    """The states of a set, ascending."""
    return [state for state in range(mask.bit_length()) if mask & (1 << state)]


def column_masks(places):
    """For each unlike column the states that have it, when the number of its column is told for each state."""
    masks = [0] * (max(places) + 1)
    for state, place in enumerate(places):
        masks[place] = masks[place] | (1 << state)
    return masks
