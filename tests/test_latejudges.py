import unittest
from copy import deepcopy
from itertools import product
from random import Random

from afterwise.errors import BadSight, TooMany, Unlike
from afterwise.gates import Gate
from afterwise.late import best_hand
from afterwise.latejudges import judge_climb, judge_rungs, judge_table
from afterwise.stores import Store
from tests.helpers import NO_INTEGERS, caught, counting_store, example_store, random_gate, random_store
from tests.test_late import PlainHands

EXAMPLE = example_store()
# It has one kind, whatever comes: an ask costs nothing if one stays, and 2 if one changes.
EVEN = Store("a", (0, 0), (((0, 2), (2, 0)),), (0, 0))
# To stay costs 1, to change 3; the other state is free for ever.
RENT = Store("a", (0, 9), (((1, 3), (9, 0)),), (0, 0))
# Each ask is cheap in one of two states, and to change costs more.
ENDLESS = Store("ab", (0, 9), (((1, 9), (10, 0)), ((0, 10), (9, 1))), (0, 0))


def as_lists(thing):
    """The thing with lists in the place of all tuples."""
    return [as_lists(item) for item in thing] if isinstance(thing, tuple) else thing


def plain_moments(plain):
    """All moments of the right form, whether they come up or not."""
    waiting = ["".join(row) for row in product(plain.store.asks, repeat=plain.sight)]
    places = range(len(plain.gate))
    kinds, states = range(len(plain.machine)), range(len(plain.store))
    found = [tuple(item) for item in product(kinds, states, waiting, places)]
    for many in range(plain.sight):
        found += [(0, -1, "".join(row), place) for row in product(plain.store.asks, repeat=many) for place in places]
    return found


def draw(random):
    """A store, a sight and a gate with not too many moments, drawn from a seeded source."""
    while True:
        asks = random.choice(("a", "ab", "abc"))
        store = random_store(random, asks, random.randint(1, 3), random.choice((2, 4)))
        sight = random.randrange(4)
        gate = random.choice((None, random_gate(random, asks, random.randint(1, 3), 0.4)))
        if len(PlainHands(store, sight, gate).every()) <= 60:
            return store, sight, gate


class TableTests(unittest.TestCase):
    def test_told_tables_and_changed_ones(self):
        random = Random(170)
        seen = {}
        for _ in range(500):
            store, sight, gate = draw(random)
            told = best_hand(store, sight, gate=gate)
            if not told:
                continue
            plain = PlainHands(store, sight, gate)

            def judge(rest, begin, table):
                return judge_table(store, sight, rest, begin, table, gate=gate)
            table = as_lists(told.table)
            random.shuffle(table)
            self.assertIs(judge(told.rest, told.begin, table), True)
            self.assertIs(judge(told.rest + 1, told.begin, told.table), True)
            self.assertIs(judge(told.rest - 1, told.begin, told.table), False)
            raised = [(moment, height + 2, choices) for moment, height, choices in told.table]
            self.assertIs(judge(told.rest + 2, told.begin, raised), True)
            self.assertIs(judge(told.rest, told.begin, raised), False)
            at = random.randrange(len(table))
            self.assertIs(judge(told.rest, told.begin, told.table[:at] + told.table[at + 1:]), False)
            self.assertIs(judge(told.rest, told.begin, told.table + told.table[at:at + 1]), False)
            for changed in self.changed(random, plain, told.table):
                begin = random.choice((told.begin, random.randrange(len(store)))) if sight == 0 else -1
                rest = told.rest + random.choice((0, 0, 1, 3))
                right = plain.table_holds(rest, begin, changed)
                self.assertIs(judge(rest, begin, changed), right)
                seen[sight, right] = seen.get((sight, right), 0) + 1
        self.assertEqual(len(seen), 8)
        self.assertGreater(min(seen.values()), 15)

    def changed(self, random, plain, table):
        """Tables of the right form that are changed at one place, or have triples that do not come up."""
        moments = plain_moments(plain)
        for _ in range(6):
            items = list(table)
            at = random.randrange(len(items))
            moment, height, choices = items[at]
            way = random.randrange(4)
            if way == 0:
                items[at] = (moment, height + random.choice((-1, 1)), choices)
            elif way == 1:
                ask = random.randrange(len(choices))
                other = random.choice((-1, *range(len(plain.store))))
                items[at] = (moment, height, (*choices[:ask], other, *choices[ask + 1:]))
            elif way == 2:
                items[at] = (random.choice(moments), height, choices)
            else:
                moment = random.choice(moments)
                best = [
                    -1 if move is None else random.choice(list(move)) for move in plain.moves(moment)
                ]
                items.append((moment, height + random.randint(0, 9), tuple(best)))
            yield tuple(items)

    def judge(self, table, rest=2, begin=0):
        return judge_table(RENT, 0, rest, begin, table)

    def test_each_condition(self):
        # Behind three asks the least machine is in the kind in which the store pays nothing more.
        told = best_hand(RENT, 0)
        self.assertEqual((told.rest, told.begin), (PlainHands(RENT, 0, None).least_rest(30)[0], 0))
        self.assertIs(judge_table(store=RENT, sight=0, rest=told.rest, begin=0, table=told.table, gate=None), True)
        # The other state as the begin is dearer by 9 less what the empty row costs.
        state = [triple for triple in told.table if triple[0][:2] == (0, 1)]
        self.assertEqual(state, [])
        self.assertIs(self.judge(told.table, told.rest, 1), False)
        other = [((kind, 1, "", 0), 0, (1,)) for kind in range(4)]
        self.assertIs(self.judge(other, 9, 1), True)
        self.assertIs(self.judge(other, 8, 1), False)
        self.assertIs(self.judge(other, 9, 0), False)
        self.assertIs(self.judge(other[1:], 9, 1), False)
        self.assertIs(self.judge([], 9, 1), False)

    def test_choices_for_asks_that_cannot_come(self):
        gate = Gate("ab", ((0, None),))
        for sight in range(4):
            told = best_hand(EXAMPLE, sight, gate=gate)
            self.assertTrue(all(choices[1] == -1 for _, _, choices in told.table))
            self.assertIs(judge_table(EXAMPLE, sight, told.rest, told.begin, told.table, gate=gate), True)
            for other in (0, 1, 2, -2, None, "", True):
                table = [(moment, height, (choices[0], other)) for moment, height, choices in told.table]
                self.assertIs(judge_table(EXAMPLE, sight, told.rest, told.begin, table, gate=gate), False)
            for other in (-1, -2, 2, None, "0", False):
                table = [(moment, height, (other, -1)) for moment, height, _ in told.table]
                begun = [(moment[1] == -1 and len(moment[2]) + 1 < sight) and other == -1 for moment, _, _ in told.table]
                right = all(begun)
                self.assertIs(judge_table(EXAMPLE, sight, told.rest, told.begin, table, gate=gate), right)

    def test_wrong_begins(self):
        told = best_hand(EVEN, 0)
        for begin in (-1, 2, None, "0", True, False, 0.0, (0,)):
            self.assertIs(judge_table(EVEN, 0, 9, begin, told.table), False)
        for sight in (1, 2, 3):
            told = best_hand(EVEN, sight)
            self.assertIs(judge_table(EVEN, sight, 9, -1, told.table), True)
            for begin in (0, 1, -2, None, "-1", -1.0, True, (-1,)):
                self.assertIs(judge_table(EVEN, sight, 9, begin, told.table), False)

    def test_wrong_forms(self):
        for sight in range(4):
            told = best_hand(EXAMPLE, sight)
            def judge(table, rest=told.rest):
                return judge_table(EXAMPLE, sight, rest, told.begin, table)
            self.assertIs(judge(told.table), True)
            for rest in NO_INTEGERS:
                self.assertIs(judge(told.table, rest), False)
            for table in (None, 1, True, "ab", told.table[0], (told.table,), {0: told.table}, dict.fromkeys(told.table)):
                self.assertIs(judge(table), False)
            moment, height, choices = told.table[-1]
            wrong = [(moment, height), (moment, height, choices, 0), (height, moment, choices), None, 1, "abc"]
            wrong += [(moment, thing, choices) for thing in NO_INTEGERS]
            wrong += [(moment, height, thing) for thing in (None, 0, "01", (), choices[:1], (*choices, 0), {0: 1, 1: 0})]
            wrong += [(moment, height, (choices[0], thing)) for thing in (None, "0", True, False, -2, 2, (0,))]
            wrong += [(thing, height, choices) for thing in wrong_moments(moment, sight)]
            for triple in wrong:
                self.assertIs(judge(told.table[:-1] + (triple,)), False)
                self.assertIs(judge(told.table + (triple,)), False)


def wrong_moments(moment, sight):
    """Things that are no moments, each wrong at one place of a moment."""
    kind, state, waiting, place = moment
    found = [None, 1, "0", (), moment[:3], (*moment, 0), {0: 0, 1: 1, 2: 2, 3: 3}]
    found += [(thing, state, waiting, place) for thing in (-1, 2, None, "0", True, False)]
    found += [(kind, thing, waiting, place) for thing in (-2, 2, None, "0", True, False)]
    found += [(kind, state, thing, place) for thing in (None, 0, ("a",) * len(waiting), "c" * sight + "c", waiting + "a" * (sight + 1), b"")]
    found += [(kind, state, waiting, thing) for thing in (-1, 1, None, "0", True, False)]
    if sight > 0:
        # Begun with too few waiting asks, not begun with enough of them, and not begun behind the beginning.
        found += [(kind, 0, waiting[1:], place), (0, -1, "a" * sight, place), (1, -1, "", place)]
    else:
        found += [(0, -1, "", 0)]
    return found


class RungTests(unittest.TestCase):
    def test_told_rungs_and_changed_ones(self):
        random = Random(171)
        seen = {}
        for _ in range(500):
            store, sight, gate = draw(random)
            told = best_hand(store, sight, gate=gate)
            if not told:
                continue
            plain = PlainHands(store, sight, gate)

            def judge(rest, rungs):
                return judge_rungs(store, sight, rest, rungs, gate=gate)
            rungs = as_lists(told.rungs)
            random.shuffle(rungs)
            self.assertIs(judge(told.rest, rungs + rungs[:1]), True)
            self.assertIs(judge(told.rest - 1, told.rungs), True)
            self.assertIs(judge(told.rest + 1, told.rungs), False)
            # Rungs may be left free.
            higher = [(moment, worth, 3 * rung + (rung > 0), ask) for moment, worth, rung, ask in told.rungs]
            self.assertIs(judge(told.rest, higher), True)
            for changed in self.changed(random, plain, told.rungs):
                rest = told.rest + random.choice((0, 0, 0, -1, 1))
                right = plain.rungs_hold(rest, changed)
                self.assertIs(judge(rest, changed), right)
                key = (sight, max(item[2] for item in changed) > 1, right)
                seen[key] = seen.get(key, 0) + 1
        self.assertEqual(len(seen), 16)

    def changed(self, random, plain, rungs):
        """Rungs of the right form that are changed at one place, or have items that do not come up."""
        moments = plain_moments(plain)
        for _ in range(6):
            items = list(rungs)
            at = random.randrange(len(items))
            moment, worth, rung, ask = items[at]
            way = random.randrange(5)
            if way == 0:
                items[at] = (moment, worth + random.choice((-1, 1)), rung, ask)
            elif way == 1:
                items[at] = (moment, worth, max(1, rung + random.choice((-1, 1))) if rung else 0, ask)
            elif way == 2 and rung:
                moves = plain.moves(moment)
                can = [letter for letter, move in zip(plain.store.asks, moves) if move is not None]
                items[at] = (moment, worth, rung, random.choice(can))
            elif way == 3:
                other = random.choice(moments)
                items.append((other, plain.close(other) + random.choice((-3, 0, 0, 1)), 0, ""))
            else:
                del items[at]
                if not items:
                    continue
            yield tuple(items)

    def test_each_condition(self):
        told = best_hand(RENT, 0)
        def judge(rungs, rest=told.rest):
            return judge_rungs(RENT, 0, rest, rungs)
        self.assertIs(judge_rungs(store=RENT, sight=0, rest=told.rest, rungs=told.rungs, gate=None), True)
        self.assertGreater(max(rung for _, _, rung, _ in told.rungs), 1)
        for at, (moment, worth, rung, ask) in enumerate(told.rungs):
            rest = told.rungs[:at] + told.rungs[at + 1:]
            if rung == 0:
                self.assertIs(judge(rest + ((moment, worth, 0, "a"),)), False)
                self.assertIs(judge(rest + ((moment, worth, 1, ""),)), False)
                self.assertIs(judge(rest + ((moment, worth + 1, 0, ""),)), False)
            else:
                self.assertIs(judge(rest + ((moment, worth, rung, ""),)), False)
                self.assertIs(judge(rest + ((moment, worth, 0, ""),)), False)
                self.assertIs(judge(rest + ((moment, worth, 0, ask),)), False)
            self.assertIs(judge(rest), False)
        # Each state as the first one needs an item.
        self.assertIs(judge((), -100), False)
        self.assertIs(judge((((0, 0, "", 0), 0, 0, ""),), -100), False)
        self.assertIs(judge((((0, 0, "", 0), -200, 0, ""), ((0, 1, "", 0), -100, 0, "")), -200), True)
        self.assertIs(judge((((0, 0, "", 0), -200, 0, ""), ((0, 1, "", 0), -100, 0, "")), -199), False)
        # With several items for a moment, those of lesser rungs count alone.
        items = [((0, 0, "", 0), 0, 0, ""), ((0, 1, "", 0), 0, 0, "")]
        even = items + [((0, 0, "", 0), 0, 1, "a"), ((0, 1, "", 0), 0, 1, "a"), ((0, 0, "", 0), 0, 2, "a")]
        self.assertIs(judge_rungs(EVEN, 0, 0, even), True)
        self.assertIs(judge_rungs(EVEN, 0, 0, even[2:]), False)
        self.assertIs(judge_rungs(EVEN, 0, 0, items + even[4:]), True)
        self.assertIs(judge_rungs(EVEN, 0, 0, items[1:] + even[2:]), False)

    def test_asks_that_cannot_come(self):
        gate = Gate("ab", ((0, None),))
        items = [((kind, state, "", 0), -9, 0, "") for kind in (0, 1) for state in (0, 1)]
        for ask, right in (("a", True), ("b", False), ("", False), ("ab", False), ("c", False), (None, False), (("a",), False)):
            self.assertIs(judge_rungs(EXAMPLE, 0, -9, items + [((0, 0, "", 0), -9, 1, ask)], gate=gate), right)

    def test_wrong_forms(self):
        for sight in range(4):
            told = best_hand(RENT, sight)
            def judge(rungs, rest=told.rest):
                return judge_rungs(RENT, sight, rest, rungs)
            self.assertIs(judge(told.rungs), True)
            for rest in NO_INTEGERS:
                self.assertIs(judge(told.rungs, rest), False)
            for rungs in (None, 1, True, "ab", told.rungs[0], (told.rungs,), {0: told.rungs}, dict.fromkeys(told.rungs)):
                self.assertIs(judge(rungs), False)
            moment, worth, rung, ask = min(told.rungs, key=lambda item: item[2])
            wrong = [(moment, worth, rung), (moment, worth, rung, ask, 0), (moment, rung, ask, worth), None, 1, "abcd"]
            wrong += [(moment, thing, rung, ask) for thing in NO_INTEGERS]
            wrong += [(moment, worth, thing, ask) for thing in (*NO_INTEGERS, -1)]
            wrong += [(moment, worth, rung, thing) for thing in (None, 0, True, (), ("a",), "b", b"", ["a"])]
            wrong += [(thing, worth, rung, ask) for thing in wrong_moments(moment, sight) if self.is_wrong(thing)]
            for item in wrong:
                self.assertIs(judge(told.rungs + (item,)), False)

    def is_wrong(self, moment):
        # The store has more kinds than the example, so 2 is one of them.
        return not isinstance(moment, tuple) or moment[:1] != (2,)


class ClimbTests(unittest.TestCase):
    def test_told_climbs_and_changed_ones(self):
        random = Random(172)
        seen = {}
        judged = 0
        while judged < 150:
            store, sight, gate = draw(random)
            told = best_hand(store, sight, gate=gate)
            if told:
                continue
            judged += 1
            plain = PlainHands(store, sight, gate)

            def judge(number, climb):
                return judge_climb(store, sight, number, climb, gate=gate)
            climb = as_lists(told.climb)
            random.shuffle(climb)
            self.assertIs(judge(told.number, climb), True)
            self.assertIs(judge(2 * told.number, [(moment, 2 * worth, ask) for moment, worth, ask in climb]), True)
            self.assertIs(judge(told.number, [(moment, worth - 7, ask) for moment, worth, ask in climb]), True)
            self.assertIs(judge(told.number, told.climb + told.climb[:1]), False)
            at = random.randrange(len(climb))
            for way in range(8):
                items = list(told.climb)
                moment, worth, ask = items[at]
                number = told.number
                if way < 3:
                    items[at] = (moment, worth + (-1, 1, 5)[way], ask)
                elif way == 3:
                    can = [x for x, move in zip(store.asks, plain.moves(moment)) if move is not None]
                    items[at] = (moment, worth, random.choice(can))
                elif way == 4:
                    number = number + random.choice((-1, 1))
                elif way == 5:
                    del items[at]
                else:
                    other = random.choice(plain_moments(plain))
                    can = [x for x, move in zip(store.asks, plain.moves(other)) if move is not None]
                    if not can:
                        continue
                    items.append((other, worth - random.choice((0, 40)), random.choice(can)))
                right = number > 0 and plain.climb_holds(number, tuple(items))
                self.assertIs(judge(number, items), right)
                seen[sight, right] = seen.get((sight, right), 0) + 1
        self.assertEqual(len(seen), 8)

    def test_each_condition(self):
        told = best_hand(ENDLESS, 0)
        self.assertIs(judge_climb(store=ENDLESS, sight=0, number=told.number, climb=told.climb, gate=None), True)
        for number in (0, -1, -told.number, None, True, "1", 1.0):
            self.assertIs(judge_climb(ENDLESS, 0, number, told.climb), False)
        self.assertIs(judge_climb(ENDLESS, 0, 1, ()), False)
        # A bounded rest has no climb, whatever is told.
        for worths in ((0, 0), (0, 1), (5, 0)):
            climb = [((0, state, "", 0), worth, "a") for state, worth in enumerate(worths)]
            self.assertIs(judge_climb(EVEN, 0, 3, climb), False)

    def test_wrong_forms(self):
        for sight in range(4):
            told = best_hand(ENDLESS, sight)
            def judge(climb):
                return judge_climb(ENDLESS, sight, told.number, climb)
            for climb in (None, 1, True, "ab", told.climb[0], (told.climb,), {0: told.climb}, dict.fromkeys(told.climb)):
                self.assertIs(judge(climb), False)
            moment, worth, ask = told.climb[-1]
            wrong = [(moment, worth), (moment, worth, ask, 0), (moment, ask, worth), None, 1, "abc"]
            wrong += [(moment, thing, ask) for thing in NO_INTEGERS]
            wrong += [(moment, worth, thing) for thing in (None, 0, True, "", "ab", "c", ("a",), ["a"], b"a")]
            wrong += [(thing, worth, ask) for thing in wrong_moments(moment, sight) if thing != (2, *moment[1:])]
            for triple in wrong:
                self.assertIs(judge(told.climb[:-1] + (triple,)), False)
                self.assertIs(judge(told.climb + (triple,)), False)

    def test_asks_that_cannot_come(self):
        gate = Gate("ab", ((1, None), (1, 1)))
        told = best_hand(ENDLESS, 0, gate=gate)
        self.assertIs(judge_climb(ENDLESS, 0, told.number, told.climb, gate=gate), True)
        climb = [(moment, worth, "b" if moment[3] == 0 else ask) for moment, worth, ask in told.climb]
        self.assertIs(judge_climb(ENDLESS, 0, told.number, climb, gate=gate), False)


class ErrorTests(unittest.TestCase):
    def calls(self):
        return (
            lambda store, sight, **more: judge_table(store, sight, None, None, None, **more),
            lambda store, sight, **more: judge_rungs(store, sight, None, None, **more),
            lambda store, sight, **more: judge_climb(store, sight, None, None, **more),
        )

    def test_errors_in_their_order(self):
        for call in self.calls():
            for sight in (-1, 4, None, True, False, "1", 1.0, (1,)):
                for store in (EXAMPLE, counting_store(1000)):
                    error = caught(call, store, sight, gate=Gate.wide("abc"))
                    self.assertIsInstance(error, BadSight)
                    self.assertIs(error.thing, sight)
            error = caught(call, counting_store(1000), 0, gate=Gate.wide("b"))
            self.assertEqual((type(error), error.word), (Unlike, "gate"))
            for sight in (0, 3):
                error = caught(call, counting_store(1000), sight)
                self.assertEqual((type(error), error.word), (TooMany, "standing"))

    def test_too_many_moments(self):
        def even(states):
            kept = [[0 if i == j else 2 for j in range(states)] for i in range(states)]
            return Store("a", (0,) * states, (kept,), (0,) * states)
        gate = Gate("a", [((k + 1) % 10,) for k in range(10)])
        for call in self.calls():
            self.assertIs(call(even(100), 0, gate=gate), False)
            for store, sight in ((even(101), 0), (even(100), 1), (even(100), 3)):
                error = caught(call, store, sight, gate=gate)
                self.assertEqual((type(error), error.word), (TooMany, "moment"))
        told = best_hand(even(100), 0, gate=gate)
        self.assertIs(judge_table(even(100), 0, told.rest, told.begin, told.table, gate=gate), True)
        self.assertIs(judge_rungs(even(100), 0, told.rest, told.rungs, gate=gate), True)

    def test_many_rungs(self):
        store = Store("a", (0, 480), (((1, 480), (5, 0)),), (0, 0))
        told = best_hand(store, 0)
        self.assertIs(judge_rungs(store, 0, told.rest, told.rungs), True)
        self.assertIs(judge_rungs(store, 0, told.rest + 1, told.rungs), False)
        self.assertIs(judge_table(store, 0, told.rest, told.begin, told.table), True)

    def test_nothing_is_changed(self):
        for store in (RENT, ENDLESS):
            told = best_hand(store, 1)
            if told:
                table, rungs = as_lists(told.table), as_lists(told.rungs)
                before = deepcopy((table, rungs))
                self.assertIs(judge_table(store, 1, told.rest, told.begin, table), True)
                self.assertIs(judge_rungs(store, 1, told.rest, rungs), True)
                self.assertEqual((table, rungs), before)
            else:
                climb = as_lists(told.climb)
                before = deepcopy(climb)
                self.assertIs(judge_climb(store, 1, told.number, climb), True)
                self.assertEqual(climb, before)


if __name__ == "__main__":
    unittest.main()
