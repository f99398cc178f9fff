"""Claims: how great a sum of what tellers tell can be, over all rows that pass a gate."""

from afterwise.checks import check_row
from afterwise.forms import is_integer, is_tuple, is_tuple_of
from afterwise.gates import steps_of_gate
from afterwise.likeness import told
from afterwise.plain import is_row_of
from afterwise.rings import greatest_gains, least_way
from afterwise.spots import (
    Spots, check_factors, check_tellers, counts_of, first_spot, machines_of, weighted,
)


class Claim:
    """Whether worths are bounded: the greatest one, its row and heights; or a stem and a ring with its gain."""

    def __init__(self, holds, most, row, heights, stem, ring, gain):
        self.holds = holds
        self.most = most
        self.row = row
        self.heights = heights
        self.stem = stem
        self.ring = ring
        self.gain = gain

    def __bool__(self):
        return bool(self.holds)


def claim(tellers, factors, *, counts=None, gate=None):
    """The verdict whether the worths of all rows that pass are bounded."""
    weights, spots = weights_and_spots(tellers, factors, counts, gate)
    moves = spots.weighed(factors, weights)
    gains, ring = greatest_gains(moves)
    if ring is not None:
        gain = sum([gain_at(moves, number, ask) for number, ask in ring])
        row = "".join([ask for _, ask in ring])
        return Claim(False, None, None, None, spots.rows[ring[0][0]], row, gain)
    most = worth_of_nothing(spots, factors) + gains[0]
    heights = tuple(sorted(list(zip(spots.spots, gains))))
    return Claim(True, most, least_way(moves, gains), heights, None, None, None)


def worth(tellers, factors, row, *, counts=None):
    """The worth of a row."""
    check_tellers(tellers)
    check_factors(tellers, factors)
    check_row(tellers[0].asks, row)
    weights = counts_of(tellers[0].asks, counts)
    amount = weighted(factors, [told(machine, row) for machine in machines_of(tellers)])
    return amount + weighted(weights, [row.count(ask) for ask in tellers[0].asks])


def judge_heights(tellers, factors, most, heights, *, counts=None, gate=None):
    """Whether heights show that no worth of a row that passes is above the most."""
    weights, spots = weights_and_spots(tellers, factors, counts, gate)
    if not is_integer(most):
        return False
    told_heights = heights_by_spot(spots, heights)
    first = first_spot(spots.machines)
    if told_heights is None or first not in told_heights:
        return False
    if told_heights[first] + worth_of_nothing(spots, factors) > most:
        return False
    return keep_up(spots, told_heights, factors, weights, (0, 1))


def judge_ring(tellers, factors, stem, ring, *, counts=None, gate=None):
    """Whether a stem and a ring show that the worths of the rows that pass are not bounded."""
    weights, spots = weights_and_spots(tellers, factors, counts, gate)
    if not is_row_of(spots.asks, stem) or not is_row_of(spots.asks, ring) or ring == "":
        return False
    there = spots.way(first_spot(spots.machines), stem)
    if there is None:
        return False
    back = spots.way(there[0], ring)
    if back is None or back[0] != there[0]:
        return False
    return weighted(factors, back[1]) + weighted(weights, [ring.count(ask) for ask in spots.asks]) > 0


def weights_and_spots(tellers, factors, counts, gate):
    """The counts and the spots of a claim, with all errors of its arguments."""
    check_tellers(tellers)
    check_factors(tellers, factors)
    weights = counts_of(tellers[0].asks, counts)
    steps = steps_of_gate(tellers[0].asks, gate)
    return weights, Spots(machines_of(tellers), steps)


def keep_up(spots, heights, factors, weights, top):
    """Whether no move leads to a height that its own, with what the gain is beyond the top (p, q), goes above.

    What a gain is beyond the top is q times the gain less p. Each move has to lead to a spot that has a height.
    """
    for spot, height in heights.items():
        for ask, then, adds in spots.moves_from(spot):
            if then not in heights:
                return False
            beyond = top[1] * spots.gain_of(factors, weights, ask, adds) - top[0]
            if beyond + heights[then] > height:
                return False
    return True


def worth_of_nothing(spots, factors):
    """The worth of the empty row."""
    return weighted(factors, [machine.first for machine in spots.machines])


def gain_at(moves, number, letter):
    """The gain of an ask at the spot of a number."""
    return [gain for ask, _, gain in moves[number] if ask == letter][0]


def heights_by_spot(spots, heights):
    """The height for each spot that has a pair, None if the heights have another form."""
    if not is_tuple(heights):
        return None
    found = {}
    for pair in heights:
        if not is_tuple_of(pair, 2) or not spots.is_spot(pair[0]):
            return None
        spot = tuple(pair[0])
        if spot in found or not is_integer(pair[1]) or pair[1] < 0:
            return None
        found[spot] = pair[1]
    return found
