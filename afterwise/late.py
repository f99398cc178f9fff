"""The best that somebody can promise who sees only some asks ahead."""

from afterwise.climbs import climb_to
from afterwise.forcing import Forcing
from afterwise.moments import moments_of


class BestHand:
    """Whether some hand has a bounded rest: the least one, a begin, a table and rungs; or a number and a climb."""

    def __init__(self, holds, rest, begin, table, rungs, number, climb):
        self.holds = holds
        self.rest = rest
        self.begin = begin
        self.table = table
        self.rungs = rungs
        self.number = number
        self.climb = climb

    def __bool__(self):
        return bool(self.holds)


def best_hand(store, sight, *, gate=None):
    """The verdict whether some hand of a sight has a bounded rest."""
    moments = moments_of(store, sight, gate)
    forcing = final = Forcing(moments)
    if forcing.go_far():
        final = forcing.apart()
        endless = final.endless_moments()
        if endless:
            number, climb = climb_to(final, endless)
            return BestHand(False, None, None, None, None, number, climb)
    totals = first_totals(moments, final)
    rest = min(totals)
    # The rungs are the rounds, and only those up to the rest are needed, however many more there are.
    while min(first_totals(moments, forcing)) < rest:
        forcing.go_on()
    first = totals.index(rest)
    table = table_from(moments, final.now, first)
    return BestHand(True, rest, moments.choice(0, first), table, rungs_to(moments, forcing.layers, rest), None, None)


def first_totals(moments, forcing):
    """For each first moment the toll to which it has come and what is forced from there."""
    return [toll + number for toll, number in zip(moments.begin_tolls(), forcing.now[0])]


def table_from(moments, numbers, first):
    """The table with the best choices, for all moments that come up by these from the first one."""
    queue = [(0, first)]
    seen = {queue[0]: True}
    table = []
    at = 0
    while at < len(queue):
        number, state = queue[at]
        at += 1
        choices = []
        for ask, move in enumerate(moments.moves[number]):
            if move is None:
                choices.append(-1)
                continue
            then, tolls = moments.tolls(number, state, ask)
            totals = [toll + worth for toll, worth in zip(tolls, numbers[then])]
            other = totals.index(min(totals))
            choices.append(moments.choice(then, other))
            if (then, other) not in seen:
                seen[(then, other)] = True
                queue.append((then, other))
        table.append((moments.moment(number, state), numbers[number][state], tuple(choices)))
    return tuple(sorted(table))


def rungs_to(moments, layers, rest):
    """The rungs that show the rest: for each moment that is needed the layer that has come far enough."""
    queue = []
    for state, toll in enumerate(moments.begin_tolls()):
        queue.append((0, state, layer_of(layers[0], state, rest - toll)))
    seen = {item: True for item in queue}
    rungs = []
    at = 0
    while at < len(queue):
        number, state, place = queue[at]
        at += 1
        rung, numbers, asks = layers[number][place]
        ask = "" if place == 0 else moments.store.asks[asks[state]]
        rungs.append((moments.moment(number, state), numbers[state], rung, ask))
        if place > 0:
            then, tolls = moments.tolls(number, state, asks[state])
            for other, toll in enumerate(tolls):
                item = (then, other, layer_of(layers[then], other, numbers[state] - toll))
                if item not in seen:
                    seen[item] = True
                    queue.append(item)
    return tuple(sorted(rungs))


def layer_of(layers, state, worth):
    """The place of the first layer of a stage in which a state has come to the worth."""
    if layers[0][1][state] >= worth:
        return 0
    low, high = 0, len(layers) - 1
    while high - low > 1:
        middle = (low + high) // 2
        if layers[middle][1][state] >= worth:
            high = middle
        else:
            low = middle
    return high
