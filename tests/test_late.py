import unittest
from itertools import product
from random import Random
from unittest.mock import patch

from afterwise.errors import BadSight, TooMany, Unlike
from afterwise.forcing import Forcing
from afterwise.gates import Gate
from afterwise.late import best_hand
from afterwise.machines import least_machine
from afterwise.stores import Store
from tests.helpers import NO_INTEGERS, caught, counting_store, example_store, random_gate, random_store

EXAMPLE = example_store()
CLOSED = Gate("ab", ((None, None),))


class PlainHands:
    """The moments of hands, their closes and moves, by the words of the document."""

    def __init__(self, store, sight, gate):
        self.store, self.sight = store, sight
        self.machine = least_machine(store)
        self.gate = Gate.wide(store.asks) if gate is None else gate
        if sight == 0:
            self.first = {(0, s, "", 0): begin - self.machine.first for s, begin in enumerate(store.begins)}
        else:
            self.first = {(0, -1, "", 0): 0}

    def close(self, moment):
        kind, state, waiting, _ = moment
        if state == -1:
            return 0
        paid = []
        for course in product(range(len(self.store)), repeat=len(waiting)):
            states = (state, *course)
            amount = self.store.ends[states[-1]]
            for ask, one, other in zip(waiting, states, course):
                amount += self.store.price(ask, one, other)
            paid.append(amount)
        return min(paid) - self.machine.sum_from(kind, waiting)

    def moves(self, moment):
        """For each ask None, or for each choice the next moment and the toll."""
        kind, state, waiting, place = moment
        found = []
        for number, ask in enumerate(self.store.asks):
            then = self.gate.steps[place][number]
            row = waiting + ask
            if then is None:
                found.append(None)
            elif state == -1 and len(row) < self.sight:
                found.append({-1: ((0, -1, row, then), 0)})
            elif state == -1:
                first = self.machine.first
                found.append({s: ((0, s, row, then), begin - first) for s, begin in enumerate(self.store.begins)})
            else:
                there, add = self.machine.steps[kind][self.store.asks.index(row[0])]
                found.append({
                    s: ((there, s, row[1:], then), self.store.price(row[0], state, s) - add)
                    for s in range(len(self.store))
                })
        return found

    def every(self):
        """All moments that come up."""
        found, queue = set(self.first), list(self.first)
        for moment in queue:
            for move in self.moves(moment):
                for then, _ in (move or {}).values():
                    if then not in found:
                        found.add(then)
                        queue.append(then)
        return found

    def table_holds(self, rest, begin, table):
        heights = {moment: height for moment, height, _ in table}
        if len(heights) != len(table):
            return False
        start = (0, begin, "", 0)
        if start not in heights or self.first[start] + heights[start] > rest:
            return False
        for moment, height, choices in table:
            moves = self.moves(moment)
            if height < self.close(moment) or len(choices) != len(moves):
                return False
            for choice, move in zip(choices, moves):
                if move is None:
                    if choice != -1:
                        return False
                elif choice not in move:
                    return False
                else:
                    then, toll = move[choice]
                    if then not in heights or toll + heights[then] > height:
                        return False
        return True

    def rungs_hold(self, rest, rungs):
        worths = {}
        for moment, worth, rung, _ in rungs:
            worths.setdefault(moment, []).append((worth, rung))
        for moment, worth, rung, ask in rungs:
            if rung == 0:
                if ask != "" or worth > self.close(moment):
                    return False
                continue
            move = self.moves(moment)[self.store.asks.index(ask)]
            for then, toll in move.values():
                if not any(lower < rung and toll + other >= worth for other, lower in worths.get(then, ())):
                    return False
        return all(any(toll + worth >= rest for worth, _ in worths.get(first, ())) for first, toll in self.first.items())

    def climb_holds(self, number, climb):
        worths = {moment: worth for moment, worth, _ in climb}
        if len(worths) != len(climb) or not set(self.first) <= set(worths):
            return False
        for moment, worth, ask in climb:
            for then, toll in self.moves(moment)[self.store.asks.index(ask)].values():
                if then not in worths or number * toll + worths[then] < worth + 1:
                    return False
        return True

    def least_rest(self, rounds):
        """What the asks can force within so many asks, and whether more asks force no more."""
        worths = {moment: self.close(moment) for moment in self.every()}
        for _ in range(rounds):
            new = {}
            for moment, worth in worths.items():
                forced = [
                    min(toll + worths[then] for then, toll in move.values()) for move in self.moves(moment) if move
                ]
                new[moment] = max([worth, *forced])
            if new == worths:
                return min(toll + worths[first] for first, toll in self.first.items()), True
            worths = new
        return min(toll + worths[first] for first, toll in self.first.items()), False


class BestHandTests(unittest.TestCase):
    def check(self, store, sight, gate=None):
        verdict = best_hand(store, sight, gate=gate)
        plain = PlainHands(store, sight, gate)
        self.assertEqual(bool(verdict), verdict.holds)
        if verdict.holds:
            self.assertEqual((verdict.number, verdict.climb), (None, None))
            self.assertTrue(plain.table_holds(verdict.rest, verdict.begin, verdict.table))
            self.assertFalse(plain.table_holds(verdict.rest - 1, verdict.begin, verdict.table))
            self.assertTrue(plain.rungs_hold(verdict.rest, verdict.rungs))
            self.assertFalse(plain.rungs_hold(verdict.rest + 1, verdict.rungs))
            self.assert_ascending(verdict.table)
            self.assert_ascending(verdict.rungs)
            self.assertEqual(verdict.begin == -1, sight > 0)
        else:
            self.assertEqual((verdict.rest, verdict.begin, verdict.table, verdict.rungs), (None,) * 4)
            self.assertGreaterEqual(verdict.number, 1)
            self.assertTrue(plain.climb_holds(verdict.number, verdict.climb))
            self.assert_ascending(verdict.climb)
        return verdict

    def assert_ascending(self, items):
        self.assertIsInstance(items, tuple)
        self.assertEqual(items, tuple(sorted(set(items))))

    def test_the_example(self):
        # Who changes to the state of each ask pays 1 for each change, as one does in hindsight.
        for sight in range(4):
            verdict = self.check(EXAMPLE, sight)
            self.assertEqual((verdict.holds, verdict.rest, verdict.begin), (True, 0, 0 if sight == 0 else -1))
        verdict = best_hand(store=EXAMPLE, sight=0, gate=None)
        self.assertEqual(verdict.table, (((0, 0, "", 0), 0, (0, 1)), ((1, 1, "", 0), 0, (0, 1))))
        self.assertIn(((0, 0, "", 0), 0, 0, ""), verdict.rungs)

    def test_no_hand_has_a_bounded_rest(self):
        # An ask costs 1 in one of two states, and to change costs 9: whoever changes does so too early or too late.
        store = Store("ab", (0, 9), (((1, 9), (10, 0)), ((0, 10), (9, 1))), (0, 0))
        for sight in range(4):
            self.assertIs(self.check(store, sight).holds, False)
        for gate in (Gate("ab", ((0, 0), (0, 0))), Gate("ab", ((1, None), (1, 1)))):
            self.assertIs(self.check(store, 0, gate).holds, False)
        # Only so many changes can come here, so the rest is bounded.
        self.assertIs(self.check(store, 0, Gate("ab", ((0, 1), (2, 1), (2, None)))).holds, True)

    def test_one_state(self):
        store = Store("ab", (3,), (((4,),), ((-5,),)), (6,))
        verdict = self.check(store, 0)
        self.assertEqual((verdict.rest, verdict.begin), (0, 0))
        self.assertEqual(verdict.table, (((0, 0, "", 0), 6, (0, 0)),))
        for sight in (1, 2, 3):
            verdict = self.check(store, sight)
            self.assertEqual((verdict.rest, verdict.begin), (0, -1))

    def test_rests_worked_out_by_hand(self):
        # The state 0 is right for a for ever, the state 1 for b; the first ask decides, and one who does not see it
        # has to change once, for 5.
        store = Store("ab", (0, 0), (((0, 9), (5, 9)), ((9, 5), (9, 0))), (0, 0))
        gate = Gate("ab", ((1, 2), (1, None), (None, 2)))
        self.assertEqual([self.check(store, sight, gate).rest for sight in (0, 1, 2)], [5, 0, 0])
        # Here it is the second ask that decides.
        gate = Gate("ab", ((3, 3), (1, None), (None, 2), (1, 2)))
        free = Store("ab", (0, 0), store.costs, (0, 0))
        rests = [self.check(free, sight, gate).rest for sight in (0, 1, 2, 3)]
        plain = [PlainHands(free, sight, gate).least_rest(30) for sight in (0, 1, 2, 3)]
        self.assertEqual([(rest, True) for rest in rests], plain)
        self.assertEqual(rests[2:], [0, 0])
        self.assertGreater(rests[0], 0)

    def test_a_hand_that_waits(self):
        # To rent costs 1 each time, to buy costs 4 once: who rents four times and then buys pays at most 4 more.
        store = Store("a", (0, 100), (((1, 5), (100, 0)),), (0, 0))
        verdict = self.check(store, 0)
        self.assertEqual((verdict.rest, verdict.begin), PlainHands(store, 0, None).least_rest(60)[:1] + (0,))
        self.assertGreater(verdict.rest, 0)
        self.assertLess(self.check(store, 3).rest, verdict.rest)

    def test_random_stores(self):
        random = Random(130)
        seen = {}
        for _ in range(250):
            asks = random.choice(("a", "ab", "abc"))
            store = random_store(random, asks, random.randint(1, 3), random.choice((2, 4)))
            sight = random.randrange(4)
            gate = random.choice((None, random_gate(random, asks, random.randint(1, 3), 0.4)))
            plain = PlainHands(store, sight, gate)
            if len(plain.every()) > 250:
                continue
            verdict = self.check(store, sight, gate)
            rest, ended = plain.least_rest(40)
            self.assertEqual(verdict.holds, ended)
            if ended:
                self.assertEqual(verdict.rest, rest)
            key = (sight, gate is None, ended)
            seen[key] = seen.get(key, 0) + 1
        for sight in range(4):
            for wide in (True, False):
                self.assertGreater(seen.get((sight, wide, True), 0), 3, seen)
            self.assertGreater(seen.get((sight, True, False), 0) + seen.get((sight, False, False), 0), 3, seen)

    def test_gates_by_which_only_finitely_many_rows_pass(self):
        for sight in range(4):
            verdict = self.check(EXAMPLE, sight, CLOSED)
            self.assertEqual((verdict.rest, verdict.begin), (0, 0 if sight == 0 else -1))
            self.assertEqual(verdict.table, (((0, verdict.begin, "", 0), 0, (-1, -1)),))
            self.assertIn(("", 0), [(ask, rung) for _, _, rung, ask in verdict.rungs])
            gate = Gate("ab", [(k + 1, k + 1) for k in range(5)] + [(None, None)])
            verdict = self.check(EXAMPLE, sight, gate)
            self.assertEqual((verdict.rest, True), PlainHands(EXAMPLE, sight, gate).least_rest(10))

    def test_asks_that_cannot_come(self):
        gate = Gate("ab", ((None, 0),))
        for sight in range(4):
            verdict = self.check(EXAMPLE, sight, gate)
            self.assertTrue(verdict)
            self.assertEqual({choices[0] for _, _, choices in verdict.table}, {-1})

    def test_great_numbers(self):
        great = 10 ** 55
        # By each change the asks gain 1 only, beside prices so great that round by round nothing would ever show.
        store = Store("ab", (0, great), (
            ((great, 2 * great), (2 * great + 1, 0)), ((0, 2 * great + 1), (2 * great, great)),
        ), (0, 0))
        for sight in (0, 1, 2):
            verdict = self.check(store, sight)
            self.assertEqual(verdict.holds, PlainHands(store, sight, None).least_rest(60)[1])
        gate = Gate("ab", ((None, 1), (2, None), (None, None)))
        for sight in range(4):
            rest, ended = PlainHands(store, sight, gate).least_rest(10)
            self.assertEqual((self.check(store, sight, gate).rest, ended), (rest, True))

    def test_many_rungs(self):
        # To stay costs 1, to change 480: only behind 480 asks somebody who never changes has paid too much.
        store = Store("a", (0, 480), (((1, 480), (5, 0)),), (0, 0))
        verdict = self.check(store, 0)
        self.assertEqual(verdict.rest, 479)
        self.assertGreater(max(rung for _, _, rung, _ in verdict.rungs), 900)

    def test_small_stores_without_a_bounded_rest_take_few_rounds(self):
        costs = (((0, 5), (2, 3)), ((2, 2), (4, 0)))
        for store, sight, gate in (
            (Store("ab", (0, 1), costs, (0, 0)), 1, Gate("ab", ((None, 1), (0, 1), (1, 1)))),
            (Store("ah", (0, 1), costs, (0, 0)), 1, None),
            (Store("ab", (1, -1), (((2, 2), (1, -1)), ((-1, 2), (0, 1))), (3, 3)), 1, None),
            (Store("bf", (1, 2), (((0, 4), (3, 3)), ((3, 1), (6, 0))), (2, 3)), 0, Gate("bf", ((0, 0),))),
        ):
            rounds = []
            def go_on(forcing, one_more=Forcing.go_on):
                rounds.append(forcing)
                return one_more(forcing)
            with patch("afterwise.forcing.Forcing.go_on", go_on):
                self.assertIs(self.check(store, sight, gate).holds, False)
            self.assertLess(len(rounds), 100)

    def test_other_means_are_tried_at_once(self):
        # Whatever the program tries before the rounds have come to an end, the answers are the same.
        random = Random(132)
        stores = [random_store(random, "ab", random.randint(2, 3), 4) for _ in range(40)]
        stores.append(Store("a", (0, 70), (((1, 70), (5, 0)),), (0, 0)))
        told = {rounds: [] for rounds in (1, 500)}
        for rounds in told:
            with patch("afterwise.forcing.ROUNDS", rounds):
                for store in stores:
                    for sight in (0, 1):
                        verdict = self.check(store, sight)
                        told[rounds].append((verdict.holds, verdict.rest, verdict.rungs))
        self.assertEqual(told[1], told[500])
        self.assertEqual(told[1], [
            (verdict.holds, verdict.rest, verdict.rungs)
            for verdict in (best_hand(store, sight) for store in stores for sight in (0, 1))
        ])
        self.assertGreater(min(sum(holds for holds, _, _ in told[1]), sum(not holds for holds, _, _ in told[1])), 10)


class BoundTests(unittest.TestCase):
    def round_gate(self, places):
        return Gate("a", [((k + 1) % places,) for k in range(places)])

    def even_store(self, states):
        """A store with one kind, over one ask: to change costs 2, and nothing else does."""
        kept = [[0 if i == j else 2 for j in range(states)] for i in range(states)]
        return Store("a", (0,) * states, (kept,), (0,) * states)

    def refused(self, store, sight, places):
        error = caught(best_hand, store, sight, gate=self.round_gate(places))
        self.assertEqual((type(error), error.word), (TooMany, "moment"))

    def test_1000_and_1001_moments(self):
        verdict = best_hand(self.even_store(100), 0, gate=self.round_gate(10))
        self.assertEqual((verdict.holds, verdict.rest, verdict.begin, len(verdict.table)), (True, 0, 0, 10))
        self.refused(self.even_store(91), 0, 11)
        # With a sight of 1 the beginning counts, too.
        verdict = best_hand(self.even_store(37), 1, gate=self.round_gate(27))
        self.assertEqual((verdict.holds, verdict.rest, verdict.begin), (True, 0, -1))
        self.refused(self.even_store(40), 1, 25)
        self.refused(self.even_store(100), 1, 10)
        # With a sight of 3 it counts threefold, here with 998 and 1,003 moments.
        self.assertEqual(best_hand(self.even_store(199), 3, gate=self.round_gate(5)).rest, 0)
        self.refused(self.even_store(200), 3, 5)

    def test_1000_states(self):
        costs = [[[int((i + j) % 3 > k) for j in range(1000)] for i in range(1000)] for k in range(2)]
        store = Store("ab", (0,) * 1000, costs, (0,) * 1000)
        verdict = best_hand(store, 0)
        self.assertEqual((verdict.holds, verdict.rest), (True, 0))
        error = caught(best_hand, store, 1)
        self.assertEqual((type(error), error.word), (TooMany, "moment"))

    def test_962_moments_without_a_bounded_rest(self):
        store = Store("ab", (0, 240), (((1, 240), (241, 0)), ((0, 241), (240, 1))), (0, 0))
        verdict = best_hand(store, 0)
        self.assertIs(verdict.holds, False)
        self.assertTrue(PlainHands(store, 0, None).climb_holds(verdict.number, verdict.climb))

    def test_too_many_standings_go_first(self):
        error = caught(best_hand, counting_store(1000), 0, gate=Gate("a", [((k + 1) % 50,) for k in range(50)]))
        self.assertEqual((type(error), error.word), (TooMany, "standing"))

    def test_the_order_of_errors(self):
        many = counting_store(1000)
        for sight in (4, -1, 10 ** 50, *NO_INTEGERS):
            error = caught(best_hand, many, sight, gate=CLOSED)
            self.assertIsInstance(error, BadSight)
            self.assertIs(error.thing, sight)
        for sight in range(4):
            error = caught(best_hand, many, sight, gate=CLOSED)
            self.assertEqual((type(error), error.word), (Unlike, "gate"))


if __name__ == "__main__":
    unittest.main()
