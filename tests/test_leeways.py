import unittest
from random import Random

from afterwise.errors import BadAsk, BadState, TooMany
from afterwise.folds import folds
from afterwise.leeways import leeway
from afterwise.likeness import alike
from afterwise.stores import Store
from tests.helpers import NO_INTEGERS, caught, counting_store, example_store, plain_tells, random_store, rows_up_to
from tests.test_folds import doubled

EXAMPLE = example_store()


def moved(store, ask, one, other, price):
    """The store with another price in a table."""
    costs = [[list(row) for row in table] for table in store.costs]
    costs[store.asks.index(ask)][one][other] = price
    return Store(store.asks, store.begins, costs, store.ends)


def pays_the_same(store, other):
    """Whether a store in which one price is moved pays the same."""
    if not folds(store, other):
        return False
    try:
        return bool(alike(store, other))
    except TooMany:
        # A price that is raised high can bring too many standings; then short rows have to do.
        return all(plain_tells(store, row) == plain_tells(other, row) for row in rows_up_to(store.asks, 6))


class LeewayTests(unittest.TestCase):
    def check(self, store):
        """That each leeway is right, against stores with the price moved; the leeways less the prices."""
        found = []
        for ask in store.asks:
            for one in range(len(store)):
                for other in range(len(store)):
                    low, high = told = leeway(store, ask, one, other)
                    self.assertIsInstance(told, tuple)
                    price = store.price(ask, one, other)
                    self.assertLessEqual(low, price)
                    self.assertTrue(high is None or high >= price)
                    right = [low, (low + price) // 2] + ([price + 1, price + 10 ** 6] if high is None else [high])
                    wrong = [low - 1] + ([] if high is None else [high + 1])
                    for number in right:
                        self.assertTrue(pays_the_same(store, moved(store, ask, one, other, number)))
                    for number in wrong:
                        self.assertFalse(pays_the_same(store, moved(store, ask, one, other, number)))
                    found.append((low - price, high if high is None else high - price))
        return found

    def test_the_example(self):
        # To stay is better than to come back at once, and to change is needed now and then.
        self.assertEqual(leeway(store=EXAMPLE, ask="a", one=0, other=0), (0, 0))
        self.check(EXAMPLE)

    def test_small_stores(self):
        random = Random(90)
        seen = {}
        for _ in range(120):
            store = random_store(random, random.choice(("a", "ab", "bcd")), random.randint(1, 3), random.choice((3, 8)))
            for pair in self.check(store):
                seen[pair] = seen.get(pair, 0) + 1
        self.assertGreater(seen[0, 0], 50)
        self.assertGreater(seen[0, None], 50)
        self.assertGreater(seen[-1, None], 20)
        self.assertGreater(len(seen), 8)

    def test_prices_below_0_and_doubled_states(self):
        random = Random(91)
        for _ in range(40):
            store = random_store(random, "ab", 2, 5)
            less = [[[price - 3 for price in row] for row in table] for table in store.costs]
            self.check(doubled(Store("ab", store.begins, less, store.ends), random))

    def test_one_state(self):
        store = Store("ab", (3,), (((4,),), ((-5,),)), (6,))
        self.assertEqual(leeway(store, "a", 0, 0), (4, 4))
        self.assertEqual(leeway(store, "b", 0, 0), (-5, -5))

    def test_a_price_that_is_never_paid(self):
        # It costs 10 to begin in the state 1, and there the price could be paid over and over.
        store = Store("a", (0, 10), (((0, 50), (50, 7)),), (0, 0))
        self.assertEqual(leeway(store, "a", 1, 1), (0, None))
        self.assertEqual(leeway(store, "a", 0, 1), (0, None))
        self.assertEqual(leeway(store, "a", 1, 0), (-10, None))
        self.check(store)

    def test_a_price_that_must_be_paid_several_times_to_be_too_low(self):
        # Only with three uses, one behind the other with a rest between them, a lower price makes up for the begin.
        store = Store("ab", (0, 9, 9), (((0, 99, 99), (99, 99, 5), (99, 99, 99)), ((0, 99, 99), (99, 99, 99), (99, 1, 99))), (0, 0, 0))
        self.assertEqual(leeway(store, "a", 1, 2), (-1, None))
        self.check(store)

    def test_great_numbers(self):
        great = 10 ** 59
        store = Store("a", (0, great), (((0, great), (great, great)),), (0, great))
        told = {pair: leeway(store, "a", *pair) for pair in ((0, 0), (0, 1), (1, 0), (1, 1))}
        self.assertEqual(told, {(0, 0): (0, 0), (0, 1): (-great, None), (1, 0): (-great, None), (1, 1): (0, None)})

    def test_two_like_states(self):
        # What is paid in one of two like states can be paid in the other one.
        store = Store("a", (0, 0), (((1, 1), (1, 1)),), (0, 0))
        for one in range(2):
            for other in range(2):
                self.assertEqual(leeway(store, "a", one, other), (1, None))

    def test_many_states(self):
        random = Random(92)
        store = random_store(random, "ab", 120, 30)
        for ask, one, other in (("a", 0, 0), ("b", 5, 7), ("a", 119, 118)):
            low, high = leeway(store, ask, one, other)
            self.assertTrue(pays_the_same(store, moved(store, ask, one, other, low)))
            self.assertFalse(pays_the_same(store, moved(store, ask, one, other, low - 1)))
            self.assertEqual(pays_the_same(store, moved(store, ask, one, other, 10 ** 6)), high is None)

    def test_many_standings(self):
        self.assertEqual(leeway(counting_store(999), "a", 0, 1), (0, None))
        self.assertEqual(leeway(counting_store(999), "a", 0, 0), (0, 0))
        self.check(counting_store(60))


class ErrorTests(unittest.TestCase):
    def test_the_order_of_errors(self):
        many = counting_store(1000)
        for ask in ("", "b", "aa", None, 0, True, ("a",), ["a"], b"a"):
            error = caught(leeway, many, ask, None, None)
            self.assertIsInstance(error, BadAsk)
            self.assertIs(error.thing, ask)
        for state in (2, -1, *NO_INTEGERS):
            error = caught(leeway, many, "a", state, [])
            self.assertIsInstance(error, BadState)
            self.assertIs(error.thing, state)
            error = caught(leeway, many, "a", 1, state)
            self.assertIsInstance(error, BadState)
            self.assertIs(error.thing, state)
        error = caught(leeway, many, "a", 1, 0)
        self.assertEqual((type(error), error.word), (TooMany, "standing"))


if __name__ == "__main__":
    unittest.main()
