"""Rows that forget: behind them nobody can tell what came ahead."""

from afterwise.errors import TooMany
from afterwise.machines import least_machine

MOST_LOTS = 2000


class Forgetting:
    """Whether some row forgets: the least one, and the depth; or the pairs of kinds that no row leads to one."""

    def __init__(self, holds, row, depth, pairs):
        self.holds = holds
        self.row = row
        self.depth = depth
        self.pairs = pairs

    def __bool__(self):
        return bool(self.holds)


def forgetting(teller):
    """The verdict whether some row leads from all kinds of a teller to one kind."""
    machine = least_machine(teller)
    lots, rows, steps = lots_behind(machine)
    rows_that_forget = [row for lot, row in zip(lots, rows) if len(lot) == 1]
    if not rows_that_forget:
        return Forgetting(False, None, None, pairs_apart(machine))
    # The sets of kinds are in the order of their rows.
    return Forgetting(True, rows_that_forget[0], depth_of(lots, steps), None)


def lots_behind(machine):
    """The sets of kinds to which rows lead from all kinds, the least rows to them, and where each ask leads."""
    lots, rows, steps = [tuple(range(len(machine)))], [""], []
    numbers = {lots[0]: 0}
    while len(steps) < len(lots):
        lot, row, item = lots[len(steps)], rows[len(steps)], []
        for number, ask in enumerate(machine.asks):
            then = tuple(sorted(set([machine.steps[kind][number][0] for kind in lot])))
            if then not in numbers:
                if len(lots) == MOST_LOTS:
                    raise TooMany("lot")
                numbers[then] = len(lots)
                lots.append(then)
                rows.append(row + ask)
            item.append(numbers[then])
        steps.append(item)
    return lots, rows, steps


def depth_of(lots, steps):
    """The least number such that all rows with so many asks lead to one kind, None if there is none."""
    origins = [[] for _ in lots]
    for number, item in enumerate(steps):
        for then in item:
            origins[then].append(number)
    depths = {number: 0 for number, lot in enumerate(lots) if len(lot) == 1}
    queue = list(depths)
    left = [len(item) for item in steps]
    at = 0
    while at < len(queue):
        # Sets are taken when all sets behind them have been taken, so the last of these is the deepest.
        for number in origins[queue[at]]:
            left[number] -= 1
            if left[number] == 0 and number not in depths:
                depths[number] = depths[queue[at]] + 1
                queue.append(number)
        at += 1
    return depths.get(0, None)


def pairs_apart(machine):
    """The pairs of kinds, the lesser one first, that no row leads to one kind, ascending."""
    count = len(machine)
    origins = [[[] for _ in machine.asks] for _ in machine]
    for kind, item in enumerate(machine):
        for number, (then, _) in enumerate(item):
            origins[then][number].append(kind)
    # The pair of one and other has the number one * count + other.
    met = [False] * count ** 2
    queue = list(range(0, count ** 2, count + 1))
    at = 0
    while at < len(queue):
        one, other = divmod(queue[at], count)
        for ones, others in zip(origins[one], origins[other]):
            for first in ones:
                for second in others:
                    pair = first * count + second if first < second else second * count + first
                    if first != second and not met[pair]:
                        met[pair] = True
                        queue.append(pair)
        at += 1
    kinds = range(count)
    return tuple([(one, other) for one in kinds for other in kinds if one < other and not met[one * count + other]])
