import unittest
from itertools import combinations
from random import Random

from afterwise.errors import BadStates, TooMany
from afterwise.likeness import alike
from afterwise.parts import least_parts, needless, part_of
from afterwise.stores import Store
from tests.helpers import caught, counting_store, example_store, random_store

EXAMPLE = example_store()


def with_copy(store, state, more):
    """The store with one more state, which is like a state, or dearer to begin in and to go to."""
    begins = store.begins + (store.begins[state] + more,)
    costs = []
    for table in store.costs:
        rows = [row + (row[state] + more,) for row in table]
        costs.append(rows + [rows[state]])
    return Store(store.asks, begins, costs, store.ends + (store.ends[state],))


def pays_the_same(store, states):
    return alike(part_of(store, states), store).holds


def plain_least_parts(store):
    found = []
    for count in range(1, len(store) + 1):
        for states in combinations(range(len(store)), count):
            if not any(set(part) <= set(states) for part in found) and pays_the_same(store, states):
                found.append(states)
    return tuple(sorted(found))


def plain_needless(store):
    every = range(len(store))
    if len(store) == 1:
        return ()
    return tuple(state for state in every if pays_the_same(store, [other for other in every if other != state]))


class PartTests(unittest.TestCase):
    def test_the_parts_of_a_store(self):
        store = Store("ab", (1, 2, 3), (((11, 12, 13), (21, 22, 23), (31, 32, 33)), ((0, 1, 2), (3, 4, 5), (6, 7, 8))), (7, 8, 9))
        part = part_of(store=store, states=(0, 2))
        self.assertIsInstance(part, Store)
        self.assertEqual(part, Store("ab", (1, 3), (((11, 13), (31, 33)), ((0, 2), (6, 8))), (7, 9)))
        self.assertEqual(part_of(store, [1]), Store("ab", (2,), (((22,),), ((4,),)), (8,)))
        self.assertEqual(part_of(store, (0, 1, 2)), store)
        # Neither the number of states nor that of standings is bounded here.
        self.assertEqual(part_of(counting_store(10 ** 9), (1,)), Store("a", (0,), (((1,),),), (0,)))

    def test_wrong_states(self):
        for states in (
            (), [], (1, 0), (0, 0), (0, 1, 1), (0, 2), (-1,), (-1, 0), (True,), (0, True), (False, 1), (None,), ("0",), ("0", "1"),
            (0.0,), ((0,),), ([0],), None, 0, 1, True, "0", "01", {0: 0}, {0}, range(1), b"\x00", (0, 1, 2),
        ):
            error = caught(part_of, EXAMPLE, states)
            self.assertIsInstance(error, BadStates)
            self.assertIs(error.thing, states)


class LeastPartTests(unittest.TestCase):
    def check(self, store):
        parts, left_out = least_parts(store), needless(store)
        self.assertEqual((parts, left_out), (plain_least_parts(store), plain_needless(store)))
        return parts, left_out

    def test_the_example(self):
        self.assertEqual(needless(store=EXAMPLE), ())
        self.assertEqual(least_parts(store=EXAMPLE), ((0, 1),))
        doubled = with_copy(EXAMPLE, 0, 0)
        self.assertEqual(self.check(doubled), (((0, 1), (1, 2)), (0, 2)))
        dearer = with_copy(EXAMPLE, 0, 1)
        self.assertEqual(self.check(dearer), (((0, 1),), (2,)))

    def test_one_state_and_all_alike(self):
        self.assertEqual(self.check(Store("ab", (3,), (((4,),), ((-5,),)), (6,))), (((0,),), ()))
        for count in (2, 3, 10):
            store = Store("ab", (1,) * count, (((2,) * count,) * count, ((0,) * count,) * count), (3,) * count)
            self.assertEqual(needless(store), tuple(range(count)))
            self.assertEqual(least_parts(store), tuple((state,) for state in range(count)))

    def test_against_all_parts(self):
        random = Random(210)
        seen = {}
        for _ in range(250):
            asks = random.choice(("a", "ab", "abc"))
            store = random_store(random, asks, random.randint(1, 4), random.choice((2, 3, 5)))
            for _ in range(random.randrange(3)):
                store = with_copy(store, random.randrange(len(store)), random.randrange(2))
            parts, left_out = self.check(store)
            for key in (len(parts) > 1, max(map(len, parts)), bool(left_out)):
                seen[key] = seen.get(key, 0) + 1
        for key in (True, False, 2, 3):
            self.assertGreater(seen[key], 5)

    def test_states_that_are_needed_late(self):
        # The second state is far dearer to begin in, and only behind many asks less is paid with it.
        store = Store("a", (0, 300, 300), (((1, 300, 300), (600, 0, 0), (600, 0, 0)),), (0, 0, 0))
        self.assertEqual(needless(store), (1, 2))
        self.assertEqual(least_parts(store), ((0, 1), (0, 2)))

    def test_parts_with_very_many_standings(self):
        # Without the last state the two others fall apart by 1 with each ask.
        far = 10 ** 30
        costs = (((0, far, 0), (far, 1, far), (0, 0, 0)),)
        store = Store("a", (0, 0, 0), costs, (0, 0, 0))
        self.assertEqual(needless(store), (0, 1, 2))
        self.assertEqual(least_parts(store), ((0,), (2,)))

    def test_10_states_and_11(self):
        random = Random(211)
        costs = [[[random.randint(1, 4) * int(i != j) for j in range(10)] for i in range(10)] for _ in "abcd"]
        store = Store("abcd", [0] * 10, costs, [0] * 10)
        parts = least_parts(store)
        for part in parts:
            self.assertTrue(pays_the_same(store, part))
        self.assertEqual(parts, tuple(sorted(parts)))
        # Each of the ten states is cheap for other asks than the rest.
        table = [[[1 if i != j else int(i != ask and i != 4 + ask) for j in range(10)] for i in range(10)] for ask in range(4)]
        self.check(Store("abcd", [0] * 10, table, [0] * 10))
        for states in (11, 12, 1000):
            even = Store("a", (0,) * states, (((0,) * states,) * states,), (0,) * states)
            for call in (needless, least_parts):
                error = caught(call, even)
                self.assertEqual((type(error), error.word), (TooMany, "state"))

    def test_too_many_standings(self):
        for call in (needless, least_parts):
            error = caught(call, counting_store(1000))
            self.assertEqual((type(error), error.word), (TooMany, "standing"))
            self.assertIsNotNone(call(counting_store(999)))
            # Too many states go ahead.
            costs = [[1000] * 11 for _ in range(11)]
            for state in range(11):
                costs[state][state] = state
            error = caught(call, Store("a", (0,) * 11, (costs,), (0,) * 11))
            self.assertEqual((type(error), error.word), (TooMany, "state"))


if __name__ == "__main__":
    unittest.main()
