"""Judges of what somebody who sees only some asks ahead can promise: tables, rungs and climbs."""

from afterwise.benches import Bench
from afterwise.forms import is_integer, is_tuple, is_tuple_of
from afterwise.moments import moments_of


def judge_table(store, sight, rest, begin, table, *, gate=None):
    """Whether a begin and a table show that the rest of a hand is at most the rest."""
    bench = Bench(moments_of(store, sight, gate))
    triples = triples_by_key(bench, table)
    if triples is None or not is_integer(rest) or not is_begun_low(bench, rest, begin, triples):
        return False
    for key, (height, choices) in triples.items():
        if not is_tuple_of(choices, len(store.asks)) or height < bench.close(key):
            return False
        for ask, choice in enumerate(choices):
            if not is_kept_low(bench, key, ask, choice, triples):
                return False
    return True


def judge_rungs(store, sight, rest, rungs, *, gate=None):
    """Whether rungs show that every hand pays at least the rest above hindsight for some row."""
    bench = Bench(moments_of(store, sight, gate))
    items = items_of(bench, rungs)
    if items is None or not is_integer(rest):
        return False
    shelves = Shelves(items)
    for key, worth, rung, ask in items:
        if rung == 0:
            if ask != "" or worth > bench.close(key):
                return False
            continue
        move = bench.move_by_letter(key, ask)
        if move is None:
            return False
        then, prices, add = move
        if not surely_reaches(prices, shelves.best_below(then, rung, len(prices)), worth + add):
            return False
    for (stage, number), toll in bench.firsts():
        if shelves.best(stage, number) is None or shelves.best(stage, number) + toll < rest:
            return False
    return True


def judge_climb(store, sight, number, climb, *, gate=None):
    """Whether a number and a climb show that every hand pays above hindsight more and more without end."""
    bench = Bench(moments_of(store, sight, gate))
    triples = triples_by_key(bench, climb)
    if triples is None or not is_integer(number) or number < 1:
        return False
    for first, _ in bench.firsts():
        if first not in triples:
            return False
    worths = {}
    for key, (worth, ask) in triples.items():
        move = bench.move_by_letter(key, ask)
        if move is None:
            return False
        then, prices, add = move
        if then not in worths:
            worths[then] = [triples.get((then, other), (None,))[0] for other in range(len(prices))]
        tolls = [number * (price - add) for price in prices]
        if not surely_reaches(tolls, worths[then], worth + 1):
            return False
    return True


def triples_by_key(bench, thing):
    """For each moment of a tuple of triples its integer and what stands behind it; None for other forms."""
    if not is_tuple(thing):
        return None
    found = {}
    for triple in thing:
        if not is_tuple_of(triple, 3) or not is_integer(triple[1]):
            return None
        key = bench.key_of(triple[0])
        if key is None or key in found:
            return None
        found[key] = (triple[1], triple[2])
    return found


def is_begun_low(bench, rest, begin, triples):
    """Whether a begin is the choice of a first moment that has a triple and a height that the rest allows."""
    number = bench.number_of(bench.moments.stages[0], begin)
    if number is None:
        return False
    first, toll = bench.firsts()[number]
    return first in triples and toll + triples[first][0] <= rest


def is_kept_low(bench, key, ask, choice, triples):
    """Whether a choice for an ask is right for a table: it leads to a height that its own allows."""
    move = bench.move(key, ask)
    if move is None:
        return is_integer(choice) and choice == -1
    then, prices, add = move
    number = bench.number_of(then, choice)
    if number is None or (then, number) not in triples:
        return False
    return prices[number] - add + triples[(then, number)][0] <= triples[key][0]


def surely_reaches(prices, worths, least):
    """Whether each choice has a worth, and its price and worth together are at least the least."""
    if None in worths:
        return False
    return min([price + worth for price, worth in zip(prices, worths)]) >= least


def items_of(bench, thing):
    """The items of rungs, each with the key of its moment; None for other forms."""
    if not is_tuple(thing):
        return None
    items = []
    for item in thing:
        if not is_tuple_of(item, 4) or not is_integer(item[1]) or not is_integer(item[2]) or item[2] < 0:
            return None
        key = bench.key_of(item[0])
        if key is None:
            return None
        items.append((key, item[1], item[2], item[3]))
    return items


class Shelves:
    """The worths of the items of rungs by their moments, so that the best of lesser rungs are found quickly."""

    def __init__(self, items):
        # For each moment its rungs, ascending, and beside each the best worth up to it.
        self.rungs = {}
        self.worths = {}
        for rung, key, worth in sorted([(rung, key, worth) for key, worth, rung, _ in items]):
            rungs = self.rungs.setdefault(key, [])
            worths = self.worths.setdefault(key, [])
            best = worth if not worths or worth > worths[-1] else worths[-1]
            rungs.append(rung)
            worths.append(best)
        self.known = {}

    def best(self, stage, number):
        """The best worth of a moment, None if it has no item."""
        return self.worths.get((stage, number), (None,))[-1]

    def best_below(self, stage, rung, count):
        """For each state of a stage the best worth of lesser rungs, None for a state without one."""
        if (stage, rung) not in self.known:
            self.known[(stage, rung)] = [self.best_of_lesser((stage, number), rung) for number in range(count)]
        return self.known[(stage, rung)]

    def best_of_lesser(self, key, rung):
        """The best worth of a moment among the items of lesser rungs, None if there is none."""
        rungs = self.rungs.get(key, ())
        low, high = 0, len(rungs)
        while low < high:
            middle = (low + high) // 2
            if rungs[middle] < rung:
                low = middle + 1
            else:
                high = middle
        return self.worths[key][low - 1] if low > 0 else None
