"""How far the gain of a row from one kind of a teller can be above its gain from another."""

from afterwise.checks import check_kind
from afterwise.machines import least_machine
from afterwise.pairs import Pairs


def distances(teller):
    """For each kind, the one, and each kind, the other, their distance, None if it is not bounded."""
    return Pairs(least_machine(teller).steps).distances()


def farthest(teller, one, other):
    """The least row that has the distance of two kinds, None if it is not bounded."""
    machine = least_machine(teller)
    check_kind(len(machine), one)
    check_kind(len(machine), other)
    return Pairs(machine.steps).farthest_row(machine.asks, one, other)
