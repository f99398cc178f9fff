import unittest
from random import Random

from afterwise.distances import distances, farthest
from afterwise.errors import BadKind, TooMany
from afterwise.machines import Machine, least_machine
from afterwise.stores import Store
from tests.helpers import (
    NO_INTEGERS, counting_store, example_machine, example_store, gain, random_machine, random_store, rows_up_to,
)


def plain_distances(machine):
    """The distances of a least machine, by going on until nothing grows that can stop growing."""
    kinds = range(len(machine))
    far = {(i, j): 0 for i in kinds for j in kinds}
    follow = {
        pair: [((p, q), add - less) for (p, add), (q, less) in zip(machine.steps[pair[0]], machine.steps[pair[1]])]
        for pair in far
    }

    def growing():
        return [pair for pair in far if any(more + far[then] > far[pair] for then, more in follow[pair])]
    for _ in range(len(far) + 1):
        for pair in growing():
            far[pair] = max(more + far[then] for then, more in follow[pair])
    endless = set(growing())
    while True:
        more = {pair for pair in far if any(then in endless for then, _ in follow[pair])} - endless
        if not more:
            break
        endless |= more
    return tuple(tuple(None if (i, j) in endless else far[i, j] for j in kinds) for i in kinds)


def potential_machine(random, asks, kinds, high, wrong):
    """A machine whose adds come from numbers of the kinds, but for a few that are off by one."""
    numbers = [random.randint(0, high) for _ in range(kinds)]
    steps = []
    for kind in range(kinds):
        item = []
        for _ in asks:
            then = random.randrange(kinds)
            off = random.choice((1, -1)) if random.random() < wrong else 0
            item.append((then, numbers[kind] - numbers[then] + off))
        steps.append(item)
    return Machine(asks, 0, steps)


class DistanceTests(unittest.TestCase):
    def check_farthest(self, teller):
        """That each farthest row has the distance, and that no lesser one of the short rows has it."""
        machine, told = least_machine(teller), distances(teller)
        for one in range(len(machine)):
            for other in range(len(machine)):
                row = farthest(teller, one, other)
                if told[one][other] is None:
                    self.assertIsNone(row)
                    continue
                self.assertEqual(gain(machine, one, row)[1] - gain(machine, other, row)[1], told[one][other])
                for lesser in rows_up_to(machine.asks, min(len(row), 4)):
                    more = gain(machine, one, lesser)[1] - gain(machine, other, lesser)[1]
                    self.assertLessEqual(more, told[one][other])
                    if (len(lesser), lesser) < (len(row), row):
                        self.assertLess(more, told[one][other])

    def test_the_example(self):
        for teller in (example_store(), example_machine()):
            self.assertEqual(distances(teller=teller), ((0, 1), (1, 0)))
            self.assertEqual(farthest(teller=teller, one=0, other=1), "b")
            self.assertEqual(farthest(teller, 1, 0), "a")

    def test_a_kind_and_itself(self):
        for kind in (0, 1):
            self.assertEqual(farthest(example_store(), kind, kind), "")
        self.assertEqual(distances(Machine("a", 0, (((0, 5),),))), ((0,),))
        self.assertEqual(farthest(Machine("a", 0, (((0, 5),),)), 0, 0), "")

    def test_no_distance_is_bounded(self):
        machine = Machine("ab", 0, (((1, 0), (0, 1)), ((1, 0), (0, 0))))
        self.assertEqual(distances(machine), ((0, 1), (0, 0)))
        endless = Machine("ab", 0, (((0, 1), (1, 0)), ((1, 0), (0, 1))))
        self.assertEqual(distances(endless), ((0, None), (None, 0)))
        self.assertEqual((farthest(endless, 0, 1), farthest(endless, 1, 0)), (None, None))
        self.assertEqual(farthest(endless, 1, 1), "")

    def test_some_distances_are_bounded(self):
        # The kind 0 gains with each a, the kind 1 only with b, which leads both to one kind.
        machine = Machine("ab", 0, (((0, 1), (1, 0)), ((1, 0), (1, 2))))
        self.assertEqual(distances(machine), ((0, None), (2, 0)))
        self.assertEqual((farthest(machine, 0, 1), farthest(machine, 1, 0)), (None, "b"))

    def test_a_distance_behind_an_endless_loss(self):
        # From the kind 2 each a loses 1 against the kind 1, but b gains 5 once.
        machine = Machine("ab", 0, (((1, 0), (2, 0)), ((1, 1), (0, 0)), ((2, 0), (0, 5))))
        self.assertEqual(distances(machine)[2][1], 5)
        self.assertEqual(distances(machine), plain_distances(machine.least()))
        self.check_farthest(machine)

    def test_machines_against_going_on_until_nothing_grows(self):
        random = Random(17)
        seen = {True: 0, False: 0}
        for _ in range(250):
            asks = random.choice(("a", "ab", "abc"))
            kinds = random.randint(1, 4)
            if random.randrange(2):
                machine = potential_machine(random, asks, kinds, 4, 0.1)
            else:
                machine = random_machine(random, asks, kinds, 2)
            told = distances(machine)
            self.assertEqual(told, plain_distances(machine.least()))
            seen[any(None in row for row in told)] += 1
            self.check_farthest(machine)
        self.assertTrue(seen[True] > 20 and seen[False] > 20)

    def test_the_distances_of_stores_are_bounded(self):
        random = Random(18)
        for _ in range(50):
            store = random_store(random, random.choice(("a", "ab")), random.randint(1, 3), 4)
            told = distances(store)
            self.assertFalse(any(None in row for row in told))
            self.assertEqual(told, plain_distances(least_machine(store)))
            self.check_farthest(store)

    def test_the_machine_stays_as_it_is(self):
        machine = Machine("ab", 0, (((2, 0), (1, 1)), ((0, 1), (1, 0)), ((0, 0), (1, 1))))
        steps, rows = machine.steps, machine.rows
        distances(machine)
        farthest(machine, 0, 1)
        self.assertEqual((machine.steps, machine.rows, len(machine)), (steps, rows, 3))

    def test_wrong_kinds(self):
        for kind in (2, -1, *NO_INTEGERS):
            for kinds in ((kind, 0), (kind, "x"), (1, kind)):
                for teller in (example_machine(), example_store()):
                    with self.assertRaises(BadKind) as caught:
                        farthest(teller, *kinds)
                    self.assertIs(caught.exception.thing, kind)
        doubled = Machine("ab", 0, (((2, 0), (1, 1)), ((0, 1), (1, 0)), ((0, 0), (1, 1))))
        with self.assertRaises(BadKind):
            farthest(doubled, 0, 2)

    def test_1000_kinds(self):
        kinds = 1000
        machine = Machine("ab", 0, [((min(k + 1, 999), 0), (max(k - 1, 0), int(k == 0))) for k in range(kinds)])
        told = distances(machine)
        self.assertEqual(told, tuple(tuple(max(j - i, 0) for j in range(kinds)) for i in range(kinds)))
        self.assertEqual(farthest(machine, 3, 900), "b" * 900)
        self.assertEqual(farthest(machine, 900, 3), "")

    def test_1000_and_1001_standings(self):
        store = Store("a", (0, 0), counting_store(999).costs, (999, 0))
        self.assertEqual(distances(store)[0], tuple(range(1000)))
        self.assertEqual(farthest(store, 0, 999), "a" * 999)
        for call in (distances, lambda teller: farthest(teller, 0, 0)):
            with self.assertRaises(TooMany) as caught:
                call(counting_store(1000))
            self.assertEqual(caught.exception.word, "standing")


if __name__ == "__main__":
    unittest.main()
