import unittest
from random import Random

from afterwise.distances import distances
from afterwise.errors import NotHindsight, TooMany
from afterwise.great import great_store, is_hindsight
from afterwise.likeness import alike
from afterwise.machines import Machine, least_machine
from afterwise.stores import Store
from afterwise.views import views
from tests.helpers import (
    chain_machine, counting_store, example_machine, example_store, gain, random_machine, random_store, swing_machine,
)
from tests.test_distances import potential_machine

ENDLESS = Machine("ab", 0, (((0, 1), (1, 0)), ((1, 0), (1, 2))))


def plain_table(machine, told, number):
    """The prices of an ask between views, by the words of the document."""
    def price(x, y):
        return max(add + y[then] - x[kind] for kind, (then, add) in enumerate(item[number] for item in machine))
    return tuple(tuple(price(x, y) for y in told) for x in told)


class GreatStoreTests(unittest.TestCase):
    def test_the_example(self):
        for teller in (example_store(), example_machine()):
            store = great_store(teller=teller)
            self.assertIsInstance(store, Store)
            self.assertEqual(store.asks, "ab")
            self.assertEqual(store.begins, (0, 0, 1))
            self.assertEqual(store.costs[0], ((1, 1, 2), (0, 0, 1), (1, 1, 2)))
            self.assertEqual(store.costs[1], ((1, 2, 1), (1, 2, 1), (0, 1, 0)))
            self.assertEqual(store.ends, (0, 0, 0))

    def test_prices_by_the_words_of_the_document(self):
        random = Random(22)
        for _ in range(60):
            store = random_store(random, random.choice(("a", "ab", "abc")), random.randint(1, 3), 3)
            machine, told = least_machine(store), views(store)
            great = great_store(store)
            self.assertEqual(great.begins, tuple(machine.first + view[0] for view in told))
            self.assertEqual(great.ends, (0,) * len(told))
            if len(told) <= 40:
                for number in range(len(machine.asks)):
                    self.assertEqual(great.costs[number], plain_table(machine, told, number))

    def test_it_pays_what_the_teller_tells(self):
        random = Random(23)
        many = 0
        for _ in range(80):
            if random.randrange(2):
                teller = random_store(random, "ab", random.randint(1, 3), 3)
            else:
                teller = potential_machine(random, "ab", random.randint(1, 4), 3, 0)
            great = great_store(teller)
            self.assertTrue(alike(great, teller))
            self.assertEqual(great_store(great), great)
            many += len(great) > 2
        self.assertGreater(many, 20)

    def test_tellers_that_tell_the_same_have_equal_ones(self):
        random = Random(24)
        stores = [random_store(random, "a", 2, 2) for _ in range(25)]
        for one in stores:
            self.assertEqual(great_store(one), great_store(least_machine(one)))
            for other in stores:
                self.assertEqual(bool(alike(one, other)), great_store(one) == great_store(other))

    def test_400_and_401_views(self):
        machine = swing_machine(200, 199)
        great = great_store(machine)
        self.assertEqual(len(great), 400)
        self.assertEqual(great.costs[0], plain_table(machine, views(machine), 0))
        with self.assertRaises(TooMany) as caught:
            great_store(swing_machine(200, 200))
        self.assertEqual(caught.exception.word, "view")

    def test_400_and_401_columns(self):
        machine = chain_machine(400)
        self.assertEqual(len(great_store(machine)), 400)
        with self.assertRaises(TooMany) as caught:
            great_store(chain_machine(401))
        self.assertEqual(caught.exception.word, "column")

    def test_no_hindsight(self):
        with self.assertRaises(NotHindsight) as caught:
            great_store(ENDLESS)
        self.assertEqual((caught.exception.one, caught.exception.other), (0, 1))

    def test_no_hindsight_goes_ahead_of_too_many_columns(self):
        # The columns of the chain alone are 401, and only the last kind spoils the distances.
        steps = [*chain_machine(401), ((401, 1), (401, 0))]
        steps[0] = ((1, 0), (401, 5))
        machine = Machine("ab", 0, steps)
        far = distances(machine)
        pairs = [(i, j) for i, row in enumerate(far) for j, number in enumerate(row) if number is None]
        with self.assertRaises(NotHindsight) as caught:
            great_store(machine)
        self.assertEqual((caught.exception.one, caught.exception.other), pairs[0])


class HindsightTests(unittest.TestCase):
    def check_yes(self, teller):
        verdict = is_hindsight(teller)
        self.assertIs(verdict.holds, True)
        self.assertTrue(verdict)
        self.assertEqual((verdict.one, verdict.other, verdict.stem, verdict.ring), (None,) * 4)
        self.assertTrue(alike(verdict.store, teller))
        machine = least_machine(teller)
        far = distances(teller)
        told = [[far[kind][state] for kind in range(len(machine))] for state in range(len(machine))]
        self.assertEqual(verdict.store.begins, tuple(machine.first + view[0] for view in told))
        self.assertEqual(verdict.store.ends, (0,) * len(machine))
        for number in range(len(machine.asks)):
            self.assertEqual(verdict.store.costs[number], plain_table(machine, told, number))

    def check_no(self, machine):
        verdict = is_hindsight(machine)
        self.assertIs(verdict.holds, False)
        self.assertFalse(verdict)
        self.assertIsNone(verdict.store)
        least, far = machine.least(), distances(machine)
        pairs = [(i, j) for i, row in enumerate(far) for j, number in enumerate(row) if number is None]
        self.assertEqual((verdict.one, verdict.other), pairs[0])
        one, other = (gain(least, kind, verdict.stem)[0] for kind in pairs[0])
        (back, more), (other_back, less) = gain(least, one, verdict.ring), gain(least, other, verdict.ring)
        self.assertEqual((back, other_back), (one, other))
        self.assertGreater(len(verdict.ring), 0)
        self.assertGreater(more, less)

    def test_the_example(self):
        self.check_yes(example_store())
        self.check_yes(example_machine())
        self.assertTrue(is_hindsight(teller=example_machine()))
        self.assertEqual(is_hindsight(example_machine()).store.costs[0], ((0, 1), (1, 2)))

    def test_stores(self):
        random = Random(25)
        for _ in range(60):
            self.check_yes(random_store(random, random.choice(("a", "ab", "abc")), random.randint(1, 3), 4))

    def test_machines(self):
        random = Random(26)
        seen = {True: 0, False: 0}
        for _ in range(250):
            asks, kinds = random.choice(("a", "ab", "abc")), random.randint(1, 5)
            machine = potential_machine(random, asks, kinds, 3, random.choice((0, 0.1, 1)))
            bounded = not any(None in row for row in distances(machine))
            (self.check_yes if bounded else self.check_no)(machine)
            seen[bounded] += 1
        self.assertTrue(seen[True] > 30 and seen[False] > 30, seen)

    def test_a_single_pair_is_not_bounded(self):
        self.check_no(ENDLESS)
        self.check_no(Machine("ab", 0, (((0, 0), (1, 0)), ((1, 1), (1, 2)))))

    def test_a_ring_far_from_the_pair(self):
        # Two rings of 7 and 11 asks; only behind them both kinds stand on one that gains.
        steps = [((1, 0), (8, 0))] + [((k + 1, 0), (k + 1, 0)) for k in range(1, 7)] + [((7, 3), (7, 3))]
        steps += [((k + 1, 0), (k + 1, 0)) for k in range(8, 18)] + [((18, 2), (18, 2))]
        self.check_no(Machine("ab", 0, steps))

    def test_many_kinds(self):
        self.check_yes(chain_machine(60))
        random = Random(27)
        self.check_no(random_machine(random, "abcd", 1000, 2))
        store = is_hindsight(chain_machine(1000)).store
        self.assertEqual(len(store), 1000)
        self.assertTrue(alike(Machine("ab", 0, list(chain_machine(1000))), chain_machine(1000)))

    def test_a_hindsight_with_too_many_columns_is_one(self):
        self.check_yes(swing_machine(10 ** 50, 10 ** 40))
        self.assertTrue(is_hindsight(chain_machine(401)))

    def test_too_many_standings(self):
        for call in (is_hindsight, great_store):
            with self.assertRaises(TooMany) as caught:
                call(counting_store(1000))
            self.assertEqual(caught.exception.word, "standing")
        self.assertTrue(is_hindsight(counting_store(999)))


if __name__ == "__main__":
    unittest.main()
