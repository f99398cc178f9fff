import unittest
from random import Random

from afterwise.errors import TooMany
from afterwise.machines import least_machine, parting_row
from afterwise.standings import standings
from afterwise.stores import Store
from tests.helpers import counting_store, example_store, plain_work, random_store, rows_up_to


class StandingsTests(unittest.TestCase):
    def follow(self, found, asks, row):
        """The number of the standing behind a row, and the sum of the adds."""
        number, total = 0, 0
        for ask in row:
            number, add = found.steps[number][asks.index(ask)]
            total += add
        return number, total

    def test_the_example(self):
        found = standings(store=example_store())
        self.assertEqual(found.rows, ("", "a", "b", "bb"))
        self.assertEqual(found.lots, ((0, 1), (0, 3), (1, 0), (3, 0)))
        behind_a, behind_b = ((1, 0), (2, 1)), ((0, 1), (3, 0))
        self.assertEqual(found.steps, (behind_a, behind_a, behind_b, behind_b))
        self.assertEqual(len(found), 4)
        self.assertEqual(list(found), list(found.lots))

    def test_one_state(self):
        found = standings(Store("ac", (7,), (((3,),), ((-4,),)), (9,)))
        self.assertEqual((found.rows, found.lots, found.steps), (("",), ((0,),), (((0, 3), (0, -4)),)))

    def test_against_the_work_behind_all_short_rows(self):
        random = Random(1)
        for _ in range(40):
            asks = random.choice(("a", "ab", "bdh"))
            store = random_store(random, asks, random.randint(1, 3), 4)
            found = standings(store)
            least = {}
            for row in rows_up_to(asks, 5):
                numbers = plain_work(store, row)
                standing = tuple(number - min(numbers) for number in numbers)
                least.setdefault(standing, row)
                number, total = self.follow(found, asks, row)
                self.assertEqual(found.lots[number], standing)
                self.assertEqual(min(store.begins) + total, min(numbers))
            short = [(row, lot) for row, lot in zip(found.rows, found.lots) if len(row) <= 5]
            self.assertEqual(short, [(row, lot) for lot, row in least.items()])
            self.assertEqual(sorted(found.rows, key=lambda row: (len(row), row)), list(found.rows))

    def test_steps_along_long_rows(self):
        random = Random(2)
        store = random_store(random, "abc", 4, 9)
        found = standings(store)
        row = "".join(random.choice("abc") for _ in range(2000))
        numbers = plain_work(store, row)
        number, total = self.follow(found, "abc", row)
        self.assertEqual(tuple(min(store.begins) + total + more for more in found.lots[number]), numbers)

    def test_prices_below_0(self):
        found = standings(Store("a", (-5, 0), (((-3, -1), (0, -2)),), (0, 0)))
        self.assertEqual(found.lots, ((0, 5), (0, 2)))
        self.assertEqual(found.steps, (((1, -3),), ((1, -3),)))

    def test_1000_standings(self):
        store = counting_store(999)
        found = standings(store)
        self.assertEqual(len(found), 1000)
        self.assertEqual(found.lots, tuple((0, k) for k in range(1000)))
        self.assertEqual(found.rows, tuple("a" * k for k in range(1000)))
        self.assertEqual(found.steps, tuple(((min(k + 1, 999), 0),) for k in range(1000)))

    def test_1001_standings(self):
        store = counting_store(1000)
        for refused in (lambda: standings(store), lambda: least_machine(store), lambda: parting_row(store, 0, 0)):
            with self.assertRaises(TooMany) as caught:
                refused()
            self.assertEqual(caught.exception.word, "standing")


if __name__ == "__main__":
    unittest.main()
