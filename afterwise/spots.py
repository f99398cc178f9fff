"""The spots of claims: the kinds to which a row that passes leads, and the place of the gate."""

from afterwise.checks import check_like_asks
from afterwise.errors import BadCounts, BadFactors, TooMany
from afterwise.forms import are_integers, is_below
from afterwise.machines import least_machine

MOST_SPOTS = 1000


class Spots:
    """The spots of least machines and the steps of a gate, numbered in the order of the least rows to them."""

    def __init__(self, machines, gate):
        self.machines = machines
        self.gate = gate
        self.asks = machines[0].asks
        self.spots = [first_spot(machines)]
        self.rows = [""]
        # For each spot the moves of the asks that can come: the ask, the number of the next spot, and the adds.
        self.moves = []
        numbers = {self.spots[0]: 0}
        while len(self.moves) < len(self.spots):
            row, found = self.rows[len(self.moves)], []
            moves = self.moves_from(self.spots[len(self.moves)])
            for ask, spot, adds in moves:
                if spot not in numbers:
                    if len(numbers) == MOST_SPOTS:
                        raise TooMany("spot")
                    numbers[spot] = len(numbers)
                    self.spots.append(spot)
                    self.rows.append(row + ask)
                found.append((ask, numbers[spot], adds))
            self.moves.append(found)

    def moves_from(self, spot):
        """For each ask that can come at a spot the ask, the next spot, and the adds of the steps that it takes."""
        items = [machine.steps[kind] for machine, kind in zip(self.machines, spot)]
        moves = []
        for number, place in enumerate(self.gate[spot[-1]]):
            if place is not None:
                steps = [item[number] for item in items]
                spot_behind = tuple([then for then, _ in steps] + [place])
                moves.append((self.asks[number], spot_behind, [add for _, add in steps]))
        return moves

    def weighed(self, factors, counts):
        """The moves of each spot with the gain of the ask in the place of the adds."""
        return [
            [(ask, then, self.gain_of(factors, counts, ask, adds)) for ask, then, adds in found]
            for found in self.moves
        ]

    def gain_of(self, factors, counts, ask, adds):
        """The gain of an ask that takes steps with these adds."""
        return weighted(factors, adds) + counts[self.asks.find(ask)]

    def way(self, spot, row):
        """The spot to which a row leads from a spot, and the adds of its steps together; None if it cannot come."""
        sums = [0] * len(self.machines)
        for letter in row:
            found = [(then, adds) for ask, then, adds in self.moves_from(spot) if ask == letter]
            if not found:
                return None
            spot, adds = found[0]
            sums = [total + add for total, add in zip(sums, adds)]
        return spot, sums

    def is_spot(self, thing):
        """Whether a thing has the form of a spot, perhaps of one to which no row leads."""
        if not are_integers(thing, len(self.machines) + 1):
            return False
        counts = [len(machine) for machine in self.machines] + [len(self.gate)]
        return all([is_below(number, count) for number, count in zip(thing, counts)])


def first_spot(machines):
    """The spot of the empty row."""
    return (0,) * (len(machines) + 1)


def weighted(factors, numbers):
    """The sum of the factors times the numbers."""
    return sum([factor * number for factor, number in zip(factors, numbers)])


def machines_of(tellers):
    """The least machines of tellers; that of a teller that comes again is worked out once."""
    machines = []
    for teller in tellers:
        earlier = [machine for other, machine in zip(tellers, machines) if other == teller]
        machines.append(earlier[0] if earlier else least_machine(teller))
    return machines


def check_tellers(tellers):
    """Raises an error for tellers that are not all over the same asks."""
    for teller in tellers[1:]:
        check_like_asks(tellers[0], teller)


def check_factors(tellers, factors):
    """Raises an error for a thing that is no tuple of an integer for each teller."""
    if not are_integers(factors, len(tellers)):
        raise BadFactors(factors)


def counts_of(asks, counts):
    """The counts for the asks; None stands for nothing but 0."""
    if counts is None:
        return (0,) * len(asks)
    if not are_integers(counts, len(asks)):
        raise BadCounts(counts)
    return counts
