import unittest
from itertools import combinations
from random import Random

from afterwise.errors import NotHindsight, TooMany
from afterwise.fewest import fewest
from afterwise.great import great_store
from afterwise.hitting import Hitting
from afterwise.likeness import alike
from afterwise.machines import Machine, least_machine
from afterwise.parts import part_of
from afterwise.stores import Store
from afterwise.views import views
from tests.helpers import (
    caught, chain_machine, counting_store, example_machine, example_store, plain_tells, random_store, rows_up_to, swing_machine,
)
from tests.test_distances import potential_machine
from tests.test_extras import ENDLESS
from tests.test_parts import with_copy

EXAMPLE = example_store()


def plain_fewest(teller):
    """The least ones of the fewest views, by trying all choices; their numbers."""
    store = great_store(teller)
    for count in range(1, len(store) + 1):
        for states in combinations(range(len(store)), count):
            if alike(part_of(store, states), teller).holds:
                return states
    return None


class FewestTests(unittest.TestCase):
    def check(self, teller):
        found = fewest(teller)
        states = plain_fewest(teller)
        every = views(teller)
        self.assertEqual((found.number, found.views), (len(states), tuple(every[state] for state in states)))
        self.assertEqual(found.store, part_of(great_store(teller), states))
        for row in rows_up_to(teller.asks, 4):
            self.assertEqual(plain_tells(found.store, row), plain_tells(teller, row))
        return found

    def test_the_example(self):
        for teller in (EXAMPLE, example_machine()):
            found = self.check(teller)
            self.assertEqual((found.number, found.views), (2, ((0, 1), (1, 0))))
            self.assertEqual(found.store, Store("ab", (0, 1), (((0, 1), (1, 2)), ((2, 1), (1, 0))), (0, 0)))
        self.assertEqual(fewest(teller=EXAMPLE).number, 2)

    def test_doubled_and_dearer_states_change_nothing(self):
        right = fewest(EXAMPLE)
        for state in (0, 1):
            for more in (0, 1, 5):
                found = fewest(with_copy(EXAMPLE, state, more))
                self.assertEqual((found.number, found.views, found.store), (right.number, right.views, right.store))

    def test_against_all_choices(self):
        random = Random(220)
        seen = {}
        while sum(seen.values()) < 250:
            asks = random.choice(("a", "ab", "abc"))
            if random.randrange(2):
                teller = random_store(random, asks, random.randint(1, 4), random.choice((2, 3)))
            else:
                teller = potential_machine(random, asks, random.randint(2, 5), 2, 0)
            try:
                if len(views(teller)) > 14:
                    continue
            except TooMany:
                continue
            found = self.check(teller)
            seen[found.number] = seen.get(found.number, 0) + 1
        for number in (1, 2, 3, 4):
            self.assertGreater(seen[number], 3)

    def test_no_store_has_fewer_states(self):
        random = Random(221)
        for _ in range(100):
            store = random_store(random, "ab", random.randint(1, 3), 3)
            found = fewest(store)
            self.assertLessEqual(found.number, len(store))
            self.assertEqual(len(found.store), found.number)
            self.assertEqual(least_machine(found.store), least_machine(store))

    def test_60_views_and_61(self):
        for down, up in ((30, 29), (59, 0), (1, 58)):
            teller = swing_machine(down, up)
            self.assertEqual(len(views(teller)), 60)
            found = fewest(teller)
            self.assertEqual(least_machine(found.store), least_machine(teller))
            self.assertLessEqual(found.number, 2)
            error = caught(fewest, swing_machine(down + 1, up))
            self.assertEqual((type(error), error.word), (TooMany, "view"))
        # Here each of the views is needed.
        found = fewest(chain_machine(60))
        self.assertEqual((found.number, found.views), (60, views(chain_machine(60))))

    def test_many_views_of_many_kinds(self):
        random = Random(222)
        tried = 0
        while tried < 25:
            teller = potential_machine(random, random.choice(("a", "ab")), random.randint(4, 7), random.choice((1, 2)), 0)
            try:
                many = len(views(teller))
            except TooMany:
                continue
            if 35 <= many <= 60:
                tried += 1
                found = fewest(teller)
                self.assertEqual(least_machine(found.store), least_machine(teller))
                self.assertEqual(found.views, tuple(sorted(found.views)))
                self.assertLessEqual(set(found.views), set(views(teller)))

    def test_errors(self):
        error = caught(fewest, ENDLESS)
        self.assertEqual((type(error), error.one, error.other), (NotHindsight, 0, 1))
        error = caught(fewest, counting_store(1000))
        self.assertEqual((type(error), error.word), (TooMany, "standing"))
        # A chain has as many columns as kinds.
        self.assertEqual(caught(fewest, chain_machine(401)).word, "column")
        self.assertEqual(caught(fewest, chain_machine(400)).word, "view")
        # No hindsight, and more columns and views than there may be.
        steps = [*chain_machine(500).steps]
        steps[0] = ((1, 1), (0, 0))
        self.assertIsInstance(caught(fewest, Machine("ab", 0, steps[:-1] + [((499, 1), (0, 0))])), (NotHindsight, TooMany))
        endless = Machine("ab", 0, [*[((k + 1, 0), (0, 0)) for k in range(499)], ((499, 1), (499, 0))])
        self.assertIs(type(caught(fewest, endless)), NotHindsight)


class HittingTests(unittest.TestCase):
    def test_against_all_choices(self):
        random = Random(223)
        for _ in range(300):
            many = random.randint(1, 8)
            sets = [random.randint(1, 2 ** many - 1) for _ in range(random.randint(0, 9))]
            hitting = Hitting(sets[:2])
            for things in sets[2:]:
                hitting.include(things)
                if random.randrange(3) == 0:
                    hitting.least()
            right = next(
                list(chosen) for count in range(many + 1) for chosen in combinations(range(many), count)
                if all(any(things >> thing & 1 for thing in chosen) for things in sets)
            )
            self.assertEqual(hitting.least(), right)
            self.assertEqual(bin(hitting.some()).count("1"), len(right))
            self.assertTrue(all(things & hitting.some() for things in sets))


if __name__ == "__main__":
    unittest.main()
