"""Whether two tellers tell the same for every row."""

from afterwise.checks import check_like_asks
from afterwise.kinds import follow, parting
from afterwise.machines import least_machine


class Likeness:
    """Whether two tellers tell the same; if not, the least row for which they do not, and what they tell."""

    def __init__(self, holds, row, first, second):
        self.holds = holds
        self.row = row
        self.first = first
        self.second = second

    def __bool__(self):
        return bool(self.holds)


def alike(one, other):
    """The verdict whether two tellers tell the same for every row."""
    check_like_asks(one, other)
    machine, second = least_machine(one), least_machine(other)
    row = unlike_row(machine, second)
    if row is None:
        return Likeness(True, None, None, None)
    return Likeness(False, row, told(machine, row), told(second, row))


def unlike_row(one, other):
    """The least row for which two machines do not tell the same, None if there is none."""
    if one.first != other.first:
        return ""
    # Both machines stand side by side as one, the kinds of the other behind those of the one.
    count = len(one)
    shifted = [tuple([(then + count, add) for then, add in item]) for item in other]
    return parting(one.asks, list(one) + shifted, 0, count)


def told(machine, row):
    """What a machine tells for a row over its asks, of any length."""
    return machine.first + follow(machine.asks, machine.steps, 0, row)[1]
