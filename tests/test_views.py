import unittest
from itertools import product
from random import Random

from afterwise.distances import distances
from afterwise.errors import BadView, NotHindsight, TooMany
from afterwise.machines import Machine, least_machine
from afterwise.views import closure, columns, views
from tests.helpers import (
    NO_INTEGERS, chain_machine, counting_store, example_machine, example_store, random_store, rows_up_to, swing_machine,
)

ENDLESS = Machine("ab", 0, (((0, 1), (1, 0)), ((1, 0), (1, 2))))


def ring_machine(kinds):
    """A machine with one ask that leads round all kinds, with as many columns as kinds."""
    return Machine("a", 0, [(((k + 1) % kinds, int(k == 0)),) for k in range(kinds)])


def plain_closure(told, view):
    """The closure of a view, column by column."""
    best = [None] * len(view)
    for column in told:
        shift = min(view) - max(column)
        while all(number + shift + 1 <= most for number, most in zip(column, view)):
            shift += 1
        for kind, number in enumerate(column):
            if best[kind] is None or number + shift > best[kind]:
                best[kind] = number + shift
    return tuple(best)


def plain_views(teller, told):
    """The views, by going through all that keep to the distances."""
    far = distances(teller)
    every = product(*[range(max(row) + 1) for row in far])
    return tuple(view for view in every if min(view) == 0 and plain_closure(told, view) == view)


class ColumnTests(unittest.TestCase):
    def test_the_example(self):
        for teller in (example_store(), example_machine()):
            self.assertEqual(columns(teller=teller), ((0, 0), (0, 1), (1, 0)))

    def test_one_kind(self):
        machine = Machine("ab", 5, (((0, 3), (0, -3)),))
        self.assertEqual((columns(machine), views(machine)), (((0,),), ((0,),)))

    def test_against_all_short_rows(self):
        random = Random(19)
        for _ in range(60):
            store = random_store(random, random.choice(("a", "ab")), random.randint(1, 3), 3)
            machine = least_machine(store)
            told = columns(store)
            self.assertEqual(told, tuple(sorted(set(told))))
            seen = set()
            for row in rows_up_to(store.asks, 7):
                gains = [machine.sum_from(kind, row) for kind in range(len(machine))]
                seen.add(tuple(gain - min(gains) for gain in gains))
            self.assertLessEqual(seen, set(told))
            # If no longer row brings a new one, these are all.
            if len(told) <= 7:
                self.assertEqual(seen, set(told))

    def test_400_and_401_columns(self):
        self.assertEqual(len(columns(ring_machine(400))), 400)
        told = columns(chain_machine(400))
        self.assertEqual(told, tuple(sorted((0,) * (399 - k) + (1,) * k + (0,) for k in range(400))))
        for machine in (ring_machine(401), chain_machine(401)):
            for call in (columns, views, lambda teller: closure(teller, [0] * 401)):
                with self.assertRaises(TooMany) as caught:
                    call(machine)
                self.assertEqual(caught.exception.word, "column")


class ClosureTests(unittest.TestCase):
    def test_the_example(self):
        store = example_store()
        self.assertEqual(closure(teller=store, view=(0, 5)), (0, 1))
        self.assertEqual(closure(store, [7, 3]), (4, 3))
        self.assertEqual(closure(store, (-2, -2)), (-2, -2))
        self.assertEqual(closure(example_machine(), (1, 0)), (1, 0))

    def test_against_column_by_column(self):
        random = Random(20)
        for _ in range(60):
            store = random_store(random, random.choice(("a", "ab")), random.randint(1, 3), 4)
            told = columns(store)
            for _ in range(5):
                view = [random.randint(-6, 6) for _ in told[0]]
                before = list(view)
                found = closure(store, view)
                self.assertEqual(found, plain_closure(told, view))
                self.assertEqual(closure(store, found), found)
                self.assertEqual(view, before)

    def test_closed_views_and_raised_ones(self):
        store = example_store()
        for view in views(store):
            self.assertEqual(closure(store, view), view)
            self.assertEqual(closure(store, [number - 9 for number in view]), tuple(number - 9 for number in view))

    def test_wrong_views(self):
        wrong = [(), (0,), [0], (0, 0, 0), "00", None, 0, {0: 0, 1: 0}, ((0,), (0,))]
        wrong += [(0, thing) for thing in NO_INTEGERS] + [[thing, 0] for thing in NO_INTEGERS]
        for view in wrong:
            for teller in (example_store(), example_machine(), ENDLESS):
                with self.assertRaises(BadView) as caught:
                    closure(teller, view)
                self.assertIs(caught.exception.thing, view)

    def test_great_numbers(self):
        great = 10 ** 59
        self.assertEqual(closure(example_store(), (-great, great)), (-great, -great + 1))


class ViewTests(unittest.TestCase):
    def test_the_example(self):
        self.assertEqual(views(teller=example_store()), ((0, 0), (0, 1), (1, 0)))

    def test_against_all_that_keep_to_the_distances(self):
        random = Random(21)
        compared = 0
        for _ in range(120):
            store = random_store(random, random.choice(("a", "ab", "bd")), random.randint(1, 3), 4)
            told = columns(store)
            size = 1
            for row in distances(store):
                size *= max(row) + 1
            if size <= 3000:
                self.assertEqual(views(store), plain_views(store, told))
                compared += 1
        self.assertGreater(compared, 60)

    def test_400_and_401_views(self):
        self.assertEqual(len(views(swing_machine(200, 199))), 400)
        told = tuple((0, k) for k in range(400))
        self.assertEqual(views(swing_machine(399, 0)), told)
        self.assertEqual(closure(swing_machine(200, 200), (500, 0)), (200, 0))
        self.assertEqual(len(columns(swing_machine(200, 200))), 3)
        for machine in (swing_machine(200, 200), swing_machine(10 ** 50, 1)):
            with self.assertRaises(TooMany) as caught:
                views(machine)
            self.assertEqual(caught.exception.word, "view")


class RefusalTests(unittest.TestCase):
    def test_no_hindsight(self):
        for call in (columns, views, lambda teller: closure(teller, (0, 0))):
            with self.assertRaises(NotHindsight) as caught:
                call(ENDLESS)
            self.assertEqual((caught.exception.one, caught.exception.other), (0, 1))

    def test_the_first_pair_is_told(self):
        turned = Machine("ab", 0, (((0, 0), (1, 0)), ((1, 1), (1, 2))))
        for call in (columns, views):
            with self.assertRaises(NotHindsight) as caught:
                call(turned)
            self.assertEqual((caught.exception.one, caught.exception.other), (1, 0))

    def test_too_many_standings(self):
        for call in (columns, views, lambda teller: closure(teller, (0,))):
            with self.assertRaises(TooMany) as caught:
                call(counting_store(1000))
            self.assertEqual(caught.exception.word, "standing")
        self.assertEqual(columns(counting_store(999)), ((0,),))


if __name__ == "__main__":
    unittest.main()
