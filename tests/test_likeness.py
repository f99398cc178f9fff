import unittest
from random import Random

from afterwise.errors import TooMany, Unlike
from afterwise.likeness import alike
from afterwise.machines import Machine, least_machine
from afterwise.stores import Store
from tests.helpers import (
    chain_machine, counting_store, example_machine, example_store, gain, random_machine, random_store, rows_up_to,
)


def with_copy(store, state, more):
    """A store with a copy of a state behind the others; all prices into the copy are higher by more."""
    states = [*range(len(store)), state]
    last = len(store)

    def price(ask, one, other):
        return store.price(ask, states[one], states[other]) + (more if other == last else 0)
    places = range(len(states))
    costs = [[[price(ask, one, other) for other in places] for one in places] for ask in store.asks]
    begins = [store.begins[s] for s in states]
    begins[last] += more
    return Store(store.asks, begins, costs, [store.ends[s] for s in states])


def with_price(store, ask, one, other, more):
    """A store with one price of a table higher by more."""
    costs = [[list(row) for row in table] for table in store.costs]
    costs[store.asks.index(ask)][one][other] += more
    return Store(store.asks, store.begins, costs, store.ends)


class LikenessTests(unittest.TestCase):
    def check_same(self, one, other):
        for verdict in (alike(one, other), alike(other, one)):
            self.assertIs(verdict.holds, True)
            self.assertTrue(verdict)
            self.assertEqual((verdict.row, verdict.first, verdict.second), (None, None, None))

    def check_other(self, one, other, row, first, second):
        for verdict, told in ((alike(one, other), (first, second)), (alike(other, one), (second, first))):
            self.assertIs(verdict.holds, False)
            self.assertFalse(verdict)
            self.assertEqual((verdict.row, verdict.first, verdict.second), (row, *told))

    def test_a_store_and_its_least_machine(self):
        self.check_same(example_store(), example_machine())
        self.check_same(example_store(), example_store())
        self.assertTrue(alike(one=example_store(), other=example_machine()))

    def test_a_state_that_stands_twice(self):
        random = Random(14)
        for _ in range(20):
            store = random_store(random, "ab", 2, 4)
            self.check_same(store, with_copy(store, random.randrange(2), 0))
            self.check_same(store, with_copy(store, random.randrange(2), 3))

    def test_a_price_that_is_higher_by_one(self):
        self.check_other(example_store(), with_price(example_store(), "a", 0, 0, 1), "a", 0, 1)
        self.check_same(example_store(), with_price(example_store(), "a", 0, 1, 1))
        self.check_other(example_store(), with_price(example_store(), "b", 1, 1, 1), "bb", 1, 2)

    def test_machines_that_differ_for_the_empty_row_alone(self):
        one = Machine("ab", 0, (((1, 5), (1, 5)), ((1, 0), (1, 0))))
        other = Machine("ab", 2, (((1, 3), (1, 3)), ((1, 0), (1, 0))))
        self.check_other(one, other, "", 0, 2)

    def test_machines_that_differ_late(self):
        one, flat = chain_machine(1000), Machine("ab", 0, (((0, 0), (0, 0)),))
        self.check_other(one, flat, "a" * 999, 1, 0)
        self.check_same(one, chain_machine(1000))
        self.check_other(one, chain_machine(999), "a" * 998, 0, 1)

    def test_the_row_may_be_nearly_as_long_as_both_have_kinds(self):
        def ring(kinds, add):
            return Machine("a", 0, [(((k + 1) % kinds, add if k == kinds - 1 else 0),) for k in range(kinds)])
        self.check_other(ring(1000, 7), ring(999, 7), "a" * 999, 0, 7)
        self.check_same(ring(2, 3), Machine("a", 0, [[((k + 1) % 4, k % 2 * 3)] for k in range(4)]))

    def test_against_all_short_rows(self):
        random = Random(15)
        for _ in range(150):
            asks = random.choice(("a", "ab", "abc"))
            one = random_machine(random, asks, random.randint(1, 3), 1)
            other = random_machine(random, asks, random.randint(1, 3), 1)
            rows = [row for row in rows_up_to(asks, 6) if one(row) != other(row)]
            if rows:
                self.check_other(one, other, rows[0], one(rows[0]), other(rows[0]))
            else:
                self.check_same(one, other)

    def test_stores_against_machines(self):
        random = Random(16)
        for _ in range(30):
            one, other = random_store(random, "ab", 2, 3), random_store(random, "ab", 2, 3)
            verdict = alike(one, least_machine(other))
            self.assertEqual(verdict.holds, least_machine(one) == least_machine(other))
            if not verdict:
                first, second = (least_machine(store).first for store in (one, other))
                self.assertEqual(verdict.first, first + gain(least_machine(one), 0, verdict.row)[1])
                self.assertEqual(verdict.second, second + gain(least_machine(other), 0, verdict.row)[1])

    def test_other_asks(self):
        machine = Machine("a", 0, (((0, 0),),))
        for one, other in ((machine, example_store()), (example_machine(), machine), (counting_store(1000), example_store())):
            with self.assertRaises(Unlike) as caught:
                alike(one, other)
            self.assertEqual(caught.exception.word, "asks")

    def test_too_many_standings(self):
        machine = Machine("a", 0, (((0, 0),),))
        for one, other in ((machine, counting_store(1000)), (counting_store(1000), machine)):
            with self.assertRaises(TooMany) as caught:
                alike(one, other)
            self.assertEqual(caught.exception.word, "standing")
        self.check_same(machine, counting_store(999))


if __name__ == "__main__":
    unittest.main()
