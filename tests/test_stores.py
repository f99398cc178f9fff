import unittest

from afterwise.errors import BadAsk, BadAsks, BadState, BadStore, TooMany, Unlike
from afterwise.machines import Machine
from afterwise.stores import Store
from tests.helpers import NO_INTEGERS, example_machine, example_store, least_paid, rows_up_to

COSTS = (((0, 3), (1, 2)), ((2, 1), (3, 0)))


def flat_store(asks, states, price=0):
    """A store in which everything has the same price."""
    return Store(asks, [price] * states, [[[price] * states] * states] * len(asks), [price] * states)


class MakingTests(unittest.TestCase):
    def wrong(self, part, asks, begins, costs, ends):
        with self.assertRaises(BadStore) as caught:
            Store(asks, begins, costs, ends)
        self.assertEqual(caught.exception.part, part)

    def test_attributes(self):
        store = Store(asks="ab", begins=(0, 1), costs=COSTS, ends=(5, 6))
        self.assertEqual((store.asks, store.begins, store.costs, store.ends), ("ab", (0, 1), COSTS, (5, 6)))
        self.assertEqual(len(store), 2)

    def test_lists_are_kept_as_tuples_and_can_be_changed_afterwards(self):
        begins, ends = [0, 1], [5, 6]
        costs = [[[0, 3], [1, 2]], [[2, 1], [3, 0]]]
        store = Store("ab", begins, costs, ends)
        costs[0][0][0] = 9
        costs[1][1] = None
        costs.append(1)
        begins.clear()
        ends[0] = None
        self.assertEqual((store.begins, store.costs, store.ends), ((0, 1), COSTS, (5, 6)))
        self.assertIsInstance(store.begins, tuple)
        self.assertIsInstance(store.costs[0][0], tuple)

    def test_a_mixture_of_lists_and_tuples(self):
        self.assertEqual(Store("ab", [0, 1], ([(0, 3), [1, 2]], ((2, 1), [3, 0])), (0, 0)), example_store())

    def test_prices_below_0_and_great_ones(self):
        great = 10 ** 60 - 1
        store = Store("a", [-great], [[[great]]], [-1])
        self.assertEqual((store.begins, store.costs, store.ends), ((-great,), (((great,),),), (-1,)))

    def test_wrong_asks_go_first(self):
        for asks in ("", "ba", ["a", "b"], None):
            with self.assertRaises(BadAsks) as caught:
                Store(asks, None, None, None)
            self.assertIs(caught.exception.thing, asks)

    def test_wrong_begins(self):
        for begins in ((), [], "01", None, 0, {0: 1, 1: 2}, ((0, 1),), [0] * 1001):
            self.wrong("begins", "ab", begins, COSTS, (0, 0))
        for thing in NO_INTEGERS:
            self.wrong("begins", "ab", (0, thing), COSTS, (0, 0))
            self.wrong("begins", "ab", [thing, 0], None, None)

    def test_wrong_costs(self):
        row, table = (0, 0), ((0, 0), (0, 0))
        shapes = (
            None, 0, "ab", (), (table,), (table, table, table), {0: table, 1: table}, (table, None), (table, "ab"),
            (table, (row,)), (table, (row, row, row)), (table, (row, None)), (table, (row, "00")), (table, ((0,), row)),
            (table, (row, (0, 0, 0))), ((row, (0, row)), table), (table, {0: row, 1: row}), (row, row),
        )
        for costs in shapes:
            self.wrong("costs", "ab", (0, 0), costs, (0, 0))
            self.wrong("costs", "ab", (0, 0), costs, None)
        for thing in NO_INTEGERS:
            self.wrong("costs", "ab", (0, 0), (table, (row, (0, thing))), (0, 0))
            self.wrong("costs", "ab", (0, 0), [[[thing, 0], [0, 0]], table], (0, 0))

    def test_wrong_ends(self):
        for ends in ((), (0,), (0, 0, 0), None, "00", 0, {0: 0, 1: 0}):
            self.wrong("ends", "ab", (0, 0), COSTS, ends)
        for thing in NO_INTEGERS:
            self.wrong("ends", "ab", (0, 0), COSTS, (0, thing))

    def test_1000_and_1001_states(self):
        self.assertEqual(len(flat_store("a", 1000)), 1000)
        self.wrong("begins", "a", [0] * 1001, [[[0] * 1001] * 1001], [0] * 1001)


class PriceTests(unittest.TestCase):
    def test_price(self):
        store = example_store()
        self.assertEqual(store.price("a", 0, 1), 3)
        self.assertEqual(store.price("b", 1, 0), 3)
        self.assertEqual(store.price(ask="b", one=0, other=1), 1)
        wide = Store("bdh", [0], [[[5]], [[6]], [[7]]], [0])
        self.assertEqual([wide.price(ask, 0, 0) for ask in "bdh"], [5, 6, 7])

    def test_wrong_asks(self):
        for ask in ("c", "", "ab", "A", None, 0, True, ["a"], b"a"):
            with self.assertRaises(BadAsk) as caught:
                example_store().price(ask, None, None)
            self.assertIs(caught.exception.thing, ask)

    def test_wrong_states(self):
        for state in (2, -1, True, False, None, "0", 0.0, (0,)):
            for states in ((state, 0), (state, "x"), (1, state)):
                with self.assertRaises(BadState) as caught:
                    example_store().price("a", *states)
                self.assertIs(caught.exception.thing, state)


class EqualityTests(unittest.TestCase):
    def test_like_stores(self):
        self.assertTrue(example_store() == example_store())
        self.assertFalse(example_store() != example_store())

    def test_each_part_counts(self):
        parts = ("ab", (0, 1), COSTS, (0, 0))
        others = ("ac", (0, 2), (COSTS[0], COSTS[0]), (0, 1))
        for at, other in enumerate(others):
            changed = parts[:at] + (other,) + parts[at + 1:]
            self.assertFalse(Store(*parts) == Store(*changed))
            self.assertTrue(Store(*parts) != Store(*changed))

    def test_things_of_another_kind(self):
        for thing in (None, 0, "ab", COSTS, example_machine(), ("ab", (0, 1), COSTS, (0, 0))):
            self.assertFalse(example_store() == thing)
            self.assertTrue(example_store() != thing)


class SumTests(unittest.TestCase):
    def test_states_and_prices(self):
        one = Store("a", (1, 2), (((3, 4), (5, 6)),), (7, 8))
        other = Store("a", (10, 20, 30), (((1, 2, 3), (4, 5, 6), (7, 8, 9)),), (100, 200, 300))
        both = one + other
        self.assertEqual(both.begins, (11, 21, 31, 12, 22, 32))
        self.assertEqual(both.ends, (107, 207, 307, 108, 208, 308))
        for i in range(2):
            for j in range(3):
                for k in range(2):
                    for m in range(3):
                        price = one.price("a", i, k) + other.price("a", j, m)
                        self.assertEqual(both.price("a", i * 3 + j, k * 3 + m), price)

    def test_it_pays_what_both_pay(self):
        one, other = example_store(), Store("ab", (0,), (((-2,),), ((7,),)), (1,))
        for both in (one + other, other + one, one + one):
            self.assertEqual(both.asks, "ab")
        for row in rows_up_to("ab", 4):
            self.assertEqual(least_paid(one + other, row), least_paid(one, row) + least_paid(other, row))

    def test_both_stay_as_they_are(self):
        one, other = example_store(), flat_store("ab", 3)
        one + other
        self.assertEqual((one, other), (example_store(), flat_store("ab", 3)))

    def test_1000_states_and_more(self):
        both = flat_store("a", 40, 2) + flat_store("a", 25, 3)
        self.assertEqual(both, flat_store("a", 1000, 5))
        self.assertEqual(len(flat_store("a", 1) + flat_store("a", 1000)), 1000)
        for one, other in ((40, 26), (26, 40), (1000, 2), (7, 143)):
            with self.assertRaises(TooMany) as caught:
                flat_store("a", one) + flat_store("a", other)
            self.assertEqual(caught.exception.word, "state")

    def test_other_asks_go_ahead_of_too_many_states(self):
        for one, other in (("ab", "ac"), ("a", "ab"), ("b", "a")):
            with self.assertRaises(Unlike) as caught:
                flat_store(one, 40) + flat_store(other, 40)
            self.assertEqual(caught.exception.word, "asks")


class BackwardsTests(unittest.TestCase):
    def test_parts(self):
        store = Store("ab", (1, 2), (((3, 4), (5, 6)), ((7, 8), (9, 10))), (11, 12))
        turned = Store("ab", (11, 12), (((3, 5), (4, 6)), ((7, 9), (8, 10))), (1, 2))
        self.assertEqual(~store, turned)
        self.assertEqual(~~store, store)

    def test_it_pays_for_the_row_turned_round(self):
        store = example_store()
        for row in rows_up_to("ab", 4):
            self.assertEqual(least_paid(~store, row), least_paid(store, row[::-1]))
        self.assertEqual(store, example_store())


class KindTests(unittest.TestCase):
    def test_a_machine_cannot_be_added(self):
        with self.assertRaises(TypeError):
            example_store() + Machine("ab", 0, [[(0, 0), (0, 0)]])


if __name__ == "__main__":
    unittest.main()
