"""The powers of a row: the rows in which it stands any number of times, one behind the other."""

from afterwise.errors import BadRow, BadTimes
from afterwise.forms import is_integer
from afterwise.kinds import follow
from afterwise.machines import least_machine
from afterwise.plain import is_row_of
from afterwise.spans import check_hindsight


class Powers:
    """How the powers of a row come round: the begin, the period, and what one more period adds."""

    def __init__(self, amounts, begin, period):
        # What is told for each power below the begin and the period together, and for one more.
        self.amounts = amounts
        self.begin = begin
        self.period = period
        self.more = amounts[begin + period] - amounts[begin]

    def tells(self, times):
        """What the teller tells for the row times that often."""
        if not is_integer(times) or times < 0:
            raise BadTimes(times)
        if times < self.begin:
            return self.amounts[times]
        rounds, left = divmod(times - self.begin, self.period)
        return self.amounts[self.begin + left] + rounds * self.more


def powers(teller, row):
    """How the powers of a row that is not empty come round."""
    if not is_row_of(teller.asks, row) or row == "":
        raise BadRow(row)
    machine = least_machine(teller)
    check_hindsight(teller, machine)
    steps = [follow(machine.asks, machine.steps, kind, row) for kind in range(len(machine))]
    # The sign of a power: the kinds to which it leads from all kinds, and its gains less that from the kind 0.
    sign = (tuple(range(len(machine))), (0,) * len(machine))
    amounts = [machine.first]
    signs = {}
    while sign not in signs:
        signs[sign] = len(signs)
        behind = [steps[kind] for kind in sign[0]]
        add = behind[0][1]
        gains = [gain + more - add for gain, (_, more) in zip(sign[1], behind)]
        sign = (tuple([then for then, _ in behind]), tuple(gains))
        amounts.append(amounts[-1] + add)
    return Powers(tuple(amounts), signs[sign], len(signs) - signs[sign])
