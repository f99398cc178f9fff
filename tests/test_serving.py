import unittest
from random import Random

from afterwise.serving import Table


def plain_served(table, work):
    return [min(number + price for number, price in zip(work, column)) for column in zip(*table)]


def draw_table(random, states, high, far):
    """A table whose prices of changes are higher by far than those of staying, with some like rows and columns."""
    table = [[random.randrange(high) + far * (i != j) for j in range(states)] for i in range(states)]
    for _ in range(random.randrange(4)):
        i, j = random.randrange(states), random.randrange(states)
        table[i] = list(table[j])
        for row in table:
            row[j] = row[i]
    return [tuple(row) for row in table]


class TableTests(unittest.TestCase):
    def test_works_and_their_sources(self):
        random = Random(250)
        for _ in range(400):
            states = random.choice((1, 2, 3, 7, 8, 9, 10, 20, 40))
            table = draw_table(random, states, random.choice((2, 10, 1000, 10 ** 30)), random.choice((0, 5, 2000)))
            work = [random.randrange(random.choice((1, 3, 100, 5000))) for _ in range(states)]
            ready = Table(table)
            right = plain_served(table, work)
            self.assertEqual(ready.served(work), right)
            sources = ready.sources(work)
            counts = [random.randrange(5) for _ in range(states)]
            ways = [
                sum(count for count, number, price in zip(counts, work, column) if number + price == best)
                for column, best in zip(zip(*table), right)
            ]
            self.assertEqual(ready.counted(work, counts, sources), ways)

    def test_many_states_that_are_dear_to_change(self):
        random = Random(251)
        for states in (100, 300):
            for far in (0, 10 ** 4):
                table = [tuple(random.randrange(1000) + far * (i != j) for j in range(states)) for i in range(states)]
                ready = Table(table)
                work = [0] * states
                for _ in range(4):
                    right = plain_served(table, work)
                    self.assertEqual(ready.served(work), right)
                    work = right


if __name__ == "__main__":
    unittest.main()
