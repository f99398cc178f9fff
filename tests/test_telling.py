import unittest
from itertools import product
from random import Random

from afterwise.errors import BadMany, TooFew, TooMany
from afterwise.machines import Machine, least_machine
from afterwise.shortrows import number_of_rows, short_row
from afterwise.telling import telling_rows
from tests.helpers import (
    NO_INTEGERS, caught, counting_store, example_machine, example_store, plain_tells, random_machine, random_store, rows_up_to,
)
from tests.test_claims import ring_machine

EXAMPLE = example_store()


def most_rows(asks, kinds, many):
    """The number of rows that the document lets there be."""
    short = sum(len(asks) ** length for length in range(many - kinds + 1))
    return kinds * (len(asks) + 1) * short * kinds


def every_machine(asks, kinds, adds):
    """All machines with so many kinds, with a first number of 0 and the adds told."""
    steps = list(product(range(kinds), adds))
    items = list(product(steps, repeat=len(asks)))
    for chosen in product(items, repeat=kinds):
        yield Machine(asks, 0, chosen)


class TellingTests(unittest.TestCase):
    def check(self, teller, many):
        rows = telling_rows(teller, many)
        self.assertIsInstance(rows, tuple)
        self.assertEqual(list(rows), sorted(set(rows), key=lambda row: (len(row), row)))
        self.assertTrue(all(isinstance(row, str) and set(row) <= set(teller.asks) for row in rows))
        self.assertLessEqual(len(rows), most_rows(teller.asks, len(least_machine(teller)), many))
        return rows

    def tells_them_apart(self, teller, rows, other):
        """Another machine tells the same for the rows only if it does for every row."""
        same = all(plain_tells(other, row) == plain_tells(teller, row) for row in rows)
        self.assertEqual(same, other.least() == least_machine(teller))
        return same

    def test_the_example(self):
        self.assertEqual(telling_rows(teller=EXAMPLE, many=2), telling_rows(example_machine(), 2))
        for many in (2, 3, 4):
            rows = self.check(EXAMPLE, many)
            for row in ("", "a", "b", "ba", "bb"):
                self.assertIn(row, rows)

    def test_all_machines_with_few_kinds(self):
        random = Random(230)
        for asks, kinds, adds in (("a", 3, (0, 1)), ("a", 2, (-1, 0, 2)), ("ab", 2, (0, 1)), ("abc", 1, (0, 1, 5))):
            every = list(every_machine(asks, kinds, adds))
            for _ in range(12):
                teller = random.choice(every)
                rows = self.check(teller, kinds)
                found = [self.tells_them_apart(teller, rows, other) for other in every]
                self.assertIn(True, found)
            # A teller with fewer kinds than the others may have.
            for teller in every[:1] + every[-1:]:
                self.assertLess(len(teller.least()), kinds + (kinds == 1))
                rows = self.check(teller, kinds)
                for other in every:
                    self.tells_them_apart(teller, rows, other)

    def test_random_tellers(self):
        random = Random(231)
        same = 0
        for _ in range(250):
            asks = random.choice(("a", "ab", "abc", "abcd"))
            if random.randrange(3):
                teller = random_machine(random, asks, random.randint(1, 4), 1)
            else:
                teller = random_store(random, asks, 2, 3)
            machine = least_machine(teller)
            many = len(machine) + random.randint(0, 2)
            if many > 12 or most_rows(asks, len(machine), many) > 3000:
                continue
            rows = self.check(teller, many)
            for _ in range(15):
                steps = [list(item) for item in machine.steps]
                while len(steps) < many:
                    steps.append(list(random.choice(steps)))
                for _ in range(random.randint(1, 4)):
                    kind, ask = random.randrange(many), random.randrange(len(asks))
                    add = steps[kind][ask][1] + random.choice((0, 0, 1))
                    steps[kind][ask] = (random.randrange(many), add)
                same += self.tells_them_apart(teller, rows, Machine(asks, machine.first, steps))
            other = Machine(asks, machine.first + 1, machine.steps)
            self.assertIs(self.tells_them_apart(teller, rows, other), False)
        self.assertGreater(same, 30)

    def test_kinds_that_stay_hidden_for_long(self):
        # The other one tells something else only behind a row with as many asks as it has kinds.
        for asks, many in (("a", 12), ("ab", 9), ("abc", 7), ("abcd", 6)):
            zero = Machine(asks, 0, (((0, 0),) * len(asks),))
            rows = self.check(zero, many)
            random = Random(232)
            for _ in range(10):
                way = [random.randrange(len(asks)) for _ in range(many)]
                steps = []
                for kind, ask in enumerate(way):
                    item = [(0, 0)] * len(asks)
                    item[ask] = (kind + 1, 0) if kind + 1 < many else (0, 1)
                    steps.append(item)
                self.assertIs(self.tells_them_apart(zero, rows, Machine(asks, 0, steps)), False)

    def test_as_many_kinds_as_the_many(self):
        for kinds in (1, 2, 5, 12):
            teller = ring_machine("a", kinds)
            rows = self.check(teller, kinds)
            for other in range(1, kinds + 1):
                self.tells_them_apart(teller, rows, ring_machine("a", other))


class ErrorTests(unittest.TestCase):
    def test_wrong_many(self):
        for teller in (EXAMPLE, counting_store(1000), ring_machine("a", 20)):
            for many in (0, 13, -1, 10 ** 40, *NO_INTEGERS):
                error = caught(telling_rows, teller, many)
                self.assertIsInstance(error, BadMany)
                self.assertIs(error.thing, many)

    def test_too_few(self):
        for kinds, many in ((2, 1), (13, 12), (500, 3)):
            error = caught(telling_rows, ring_machine("abcd", kinds), many)
            self.assertEqual((type(error), error.number), (TooFew, kinds))
        self.assertEqual(caught(telling_rows, EXAMPLE, 1).number, 2)
        # Kinds that are alike count once.
        double = Machine("a", 0, (((1, 1),), ((0, 1),)))
        self.assertEqual(telling_rows(double, 1), telling_rows(double.least(), 1))

    def test_too_many_standings_go_ahead(self):
        for many in (1, 12):
            error = caught(telling_rows, counting_store(1000), many)
            self.assertEqual((type(error), error.word), (TooMany, "standing"))

    def test_20000_and_more(self):
        seen = {}
        for asks in ("a", "ab", "abc", "abcd"):
            for many in range(1, 13):
                for kinds in range(1, many + 1):
                    teller = ring_machine(asks, kinds)
                    number = most_rows(asks, kinds, many)
                    seen.setdefault((asks, number > 20000), []).append(number)
                    if number > 20000:
                        error = caught(telling_rows, teller, many)
                        self.assertEqual((type(error), error.word), (TooMany, "row"))
                    elif number > 10000 or kinds == many:
                        self.assertLessEqual(len(telling_rows(teller, many)), number)
        self.assertEqual(sorted(seen)[0], ("a", False))
        self.assertEqual(len(seen), 7)
        self.assertGreater(max(seen["ab", False] + seen["abc", False] + seen["abcd", False]), 15000)


class ShortRowTests(unittest.TestCase):
    def test_rows_by_their_numbers(self):
        for asks in ("a", "ab", "bdh", "abcd"):
            rows = rows_up_to(asks, 4)
            self.assertEqual([short_row(asks, number) for number in range(len(rows))], rows)
            self.assertEqual(number_of_rows(asks, 4), len(rows))
            self.assertEqual(number_of_rows(asks, 0), 1)


if __name__ == "__main__":
    unittest.main()
