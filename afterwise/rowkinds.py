"""Rows that do the same in all surroundings, and the kinds into which all rows fall by this."""

from afterwise.checks import check_kind, check_row
from afterwise.errors import TooMany
from afterwise.extras import led_apart
from afterwise.kinds import parting
from afterwise.machines import least_machine
from afterwise.spans import check_hindsight

MOST_ROW_KINDS = 400


class RowLikeness:
    """Whether two rows do the same: what the one is more; or two surroundings with unlike differences."""

    def __init__(self, holds, more, first, second):
        self.holds = holds
        self.more = more
        self.first = first
        self.second = second

    def __bool__(self):
        return bool(self.holds)


def rows_alike(teller, one, other):
    """The verdict whether two rows do the same for a teller."""
    check_row(teller.asks, one)
    check_row(teller.asks, other)
    machine = least_machine(teller)
    found = led_apart(machine, one, other)
    for kind, (then, other_then, _) in enumerate(found):
        row = machine.rows[kind]
        if then != other_then:
            parts = parting(machine.asks, machine.steps, then, other_then)
            return RowLikeness(False, None, (row, ""), (row, parts))
    for kind, (_, _, more) in enumerate(found):
        if more != found[0][2]:
            return RowLikeness(False, None, ("", ""), (machine.rows[kind], ""))
    return RowLikeness(True, found[0][2], None, None)


class RowKinds:
    """The row kinds of a hindsight, told by their normal rows; follow tells where a further ask leads."""

    def __init__(self, teller):
        machine = least_machine(teller)
        self.asks = machine.asks
        # The sign of a row: the kinds to which it leads from all kinds, and its gains less that from the kind 0.
        signs = [(tuple(range(len(machine))), (0,) * len(machine))]
        rows, gains = [""], [0]
        numbers = {signs[0]: 0}
        steps = []
        while len(steps) < len(signs):
            at, item = len(steps), []
            for number, ask in enumerate(machine.asks):
                sign, add = sign_behind(machine, signs[at], number)
                if sign not in numbers:
                    if len(signs) == MOST_ROW_KINDS:
                        # Only a hindsight has finitely many row kinds.
                        check_hindsight(teller, machine)
                        raise TooMany("row kind")
                    numbers[sign] = len(signs)
                    signs.append(sign)
                    rows.append(rows[at] + ask)
                    gains.append(gains[at] + add)
                item.append((numbers[sign], gains[at] + add - gains[numbers[sign]]))
            steps.append(tuple(item))
        self.rows = tuple(rows)
        self.follow = tuple(steps)

    def number_of(self, row):
        """The number of the row kind of a row, and the more of the row over its normal row."""
        check_row(self.asks, row)
        number, more = 0, 0
        for ask in row:
            number, add = self.follow[number][self.asks.find(ask)]
            more = more + add
        return number, more

    def normal(self, row):
        """The least row that does the same as the row."""
        return self.rows[self.number_of(row)[0]]

    def __getitem__(self, at):
        """The normal row of a number."""
        check_kind(len(self.rows), at)
        return self.rows[at]

    def __contains__(self, x):
        """Whether a thing is a normal row."""
        return isinstance(x, str) and x in self.rows

    def __len__(self):
        return len(self.rows)

    def __iter__(self):
        return iter(self.rows)


def sign_behind(machine, sign, number):
    """The sign of a row with the ask of a number behind it, and what the ask gains behind the row from the kind 0."""
    steps = [machine.steps[kind][number] for kind in sign[0]]
    add = steps[0][1]
    kinds = tuple([then for then, _ in steps])
    return (kinds, tuple([gain + more - add for gain, (_, more) in zip(sign[1], steps)])), add
