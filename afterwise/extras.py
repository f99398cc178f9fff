"""The extra of a row over another one: how much more is told with it, in whatever surrounding both stand."""

from afterwise.checks import check_row
from afterwise.kinds import follow
from afterwise.machines import least_machine
from afterwise.pairs import Pairs


class Extra:
    """The greatest amount by which more is told, and the least rows ahead and behind; all None if it is not bounded."""

    def __init__(self, more, before, behind):
        self.more = more
        self.before = before
        self.behind = behind


def extra(teller, one, other):
    """The extra of the row one over the row other."""
    check_row(teller.asks, one)
    check_row(teller.asks, other)
    machine = least_machine(teller)
    pairs = Pairs(machine.steps)
    best, place = None, None
    for kind, (then, other_then, more) in enumerate(led_apart(machine, one, other)):
        distance = pairs.distance(then, other_then)
        if distance is None:
            return Extra(None, None, None)
        if best is None or more + distance > best:
            best, place = more + distance, (kind, then, other_then)
    # The kinds are in the order of their rows, so the first kind with the amount has the least row ahead.
    kind, then, other_then = place
    return Extra(best, machine.rows[kind], pairs.farthest_row(machine.asks, then, other_then))


def led_apart(machine, one, other):
    """For each kind the kinds to which two rows lead from there, and what the one gains more than the other."""
    found = []
    for kind in range(len(machine)):
        then, gain = follow(machine.asks, machine.steps, kind, one)
        other_then, other_gain = follow(machine.asks, machine.steps, kind, other)
        found.append((then, other_then, gain - other_gain))
    return found
