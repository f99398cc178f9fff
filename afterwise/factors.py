"""The factor of a store over another one: what it pays at most, as a multiple of what the other pays."""

from math import gcd

from afterwise.checks import check_like_asks
from afterwise.errors import Below
from afterwise.gates import wide_steps
from afterwise.rings import greatest_gains
from afterwise.spots import Spots, machines_of, weighted
from afterwise.stores import Store


class Factor:
    """Whether there is a factor: the fraction and what it leaves at most; and a stem and a ring that show it."""

    def __init__(self, holds, top, most, stem, ring):
        self.holds = holds
        self.top = top
        self.most = most
        self.stem = stem
        self.ring = ring

    def __bool__(self):
        return bool(self.holds)


def factor(one, other):
    """The verdict whether one store pays at most some multiple of what the other pays, and a fixed number more."""
    check_like_asks(one, other)
    for store in (one, other):
        if not isinstance(store, Store) or least_price(store) < 0:
            raise Below()
    spots = Spots(machines_of((one, other)), wide_steps(one.asks))
    endless = gainful_ring(spots, 1, steep(spots))[1]
    if endless is not None:
        return Factor(False, None, None, stem_of(spots, endless), row_of(endless))
    over, under, ring = 0, 1, None
    gains, better = gainful_ring(spots, under, over)
    while better is not None:
        # This ring has a greater quotient than any before it, so the search comes to an end.
        ring = better
        over, under = lowest_terms(ring_gains(spots, ring))
        gains, better = gainful_ring(spots, under, over)
    most = weighted((under, -over), [machine.first for machine in spots.machines]) + gains[0]
    if ring is None:
        return Factor(True, (0, 1), most, None, None)
    return Factor(True, (over, under), most, stem_of(spots, ring), row_of(ring))


def least_price(store):
    """The least of all prices of a store."""
    tables = [min([min(row) for row in table]) for table in store.costs]
    return min([min(store.begins), min(store.ends), min(tables)])


def steep(spots):
    """A number so great that no ring makes up, by gains of the one store, for a gain of 1 of the other."""
    greatest = max([abs(adds[0]) for found in spots.moves for _, _, adds in found])
    return greatest * len(spots.moves) + 1


def gainful_ring(spots, under, over):
    """The greatest gains when those of the stores are weighed, or a ring with a gain above 0; one is None."""
    return greatest_gains(spots.weighed((under, -over), (0,) * len(spots.asks)))


def ring_gains(spots, ring):
    """What each of the stores gains along a ring."""
    return spots.way(spots.spots[ring[0][0]], row_of(ring))[1]


def lowest_terms(pair):
    """A pair of integers above 0 without their greatest common divisor."""
    common = gcd(pair[0], pair[1])
    return pair[0] // common, pair[1] // common


def stem_of(spots, ring):
    """The least row that leads to the spot where a ring begins."""
    return spots.rows[ring[0][0]]


def row_of(ring):
    """The asks of a ring."""
    return "".join([ask for _, ask in ring])
