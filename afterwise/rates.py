"""The rate of a claim: the greatest mean gain of an ask in the long run."""

from math import gcd

from afterwise.claims import heights_by_spot, keep_up, weights_and_spots
from afterwise.forms import are_integers
from afterwise.rings import greatest_gains
from afterwise.spots import first_spot


class Rate:
    """The greatest mean gain as a pair of integers, a stem and a ring that has it, and heights that show it."""

    def __init__(self, top, stem, ring, heights):
        self.top = top
        self.stem = stem
        self.ring = ring
        self.heights = heights


def rate(tellers, factors, *, counts=None, gate=None):
    """The rate of a claim, None if only finitely many rows pass."""
    weights, spots = weights_and_spots(tellers, factors, counts, gate)
    moves = spots.weighed(factors, weights)
    top, ring = (least_gain(moves) - 1, 1), None
    gains, better = greatest_gains(beyond(moves, top))
    while better is not None:
        # This ring has a greater mean than any before it, so the search comes to an end.
        ring = better
        top = mean_of(moves, ring)
        gains, better = greatest_gains(beyond(moves, top))
    if ring is None:
        return None
    row = "".join([ask for _, ask in ring])
    heights = tuple(sorted(list(zip(spots.spots, gains))))
    return Rate(top, spots.rows[ring[0][0]], row, heights)


def judge_rate(tellers, factors, top, heights, *, counts=None, gate=None):
    """Whether heights show that the rate of a claim is at most the top, a pair of integers."""
    weights, spots = weights_and_spots(tellers, factors, counts, gate)
    if not are_integers(top, 2) or top[1] < 1:
        return False
    found = heights_by_spot(spots, heights)
    if found is None or first_spot(spots.machines) not in found:
        return False
    return keep_up(spots, found, factors, weights, top)


def least_gain(moves):
    """The least gain of any move, 0 if there is none."""
    return min([gain for found in moves for _, _, gain in found], default=0)


def beyond(moves, top):
    """The moves with what their gain is beyond the top (p, q), which is q times the gain less p, in its place."""
    over, under = top
    return [[(ask, then, under * gain - over) for ask, then, gain in found] for found in moves]


def mean_of(moves, ring):
    """The mean gain of an ask of a ring, as a pair without a common divisor."""
    gain = 0
    for number, letter in ring:
        gain = gain + [more for ask, _, more in moves[number] if ask == letter][0]
    common = gcd(gain, len(ring))
    return gain // common, len(ring) // common
