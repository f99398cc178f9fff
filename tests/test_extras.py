import unittest
from random import Random

from afterwise.distances import distances
from afterwise.errors import BadRow, TooMany
from afterwise.extras import extra
from afterwise.machines import Machine, least_machine
from afterwise.stores import Store
from tests.helpers import (
    caught, chain_machine, counting_store, example_machine, example_store, plain_tells, random_machine, random_store,
    rows_up_to,
)
from tests.test_distances import potential_machine

EXAMPLE = example_store()
ENDLESS = Machine("ab", 0, (((0, 1), (1, 0)), ((1, 0), (1, 2))))


def amount(teller, one, other, before, behind):
    """By how much more is told with the one row than with the other in a surrounding."""
    return plain_tells(teller, before + one + behind) - plain_tells(teller, before + other + behind)


class ExtraTests(unittest.TestCase):
    def check(self, teller, one, other, length):
        """An extra against all surroundings of short rows."""
        found = extra(teller, one, other)
        self.assertEqual(amount(teller, one, other, found.before, found.behind), found.more)
        for before in rows_up_to(teller.asks, length):
            for behind in rows_up_to(teller.asks, length):
                here = amount(teller, one, other, before, behind)
                self.assertLessEqual(here, found.more)
                if here == found.more:
                    self.assertLessEqual((len(found.before), found.before), (len(before), before))
                    if before == found.before:
                        self.assertLessEqual((len(found.behind), found.behind), (len(behind), behind))
        return found

    def test_the_example(self):
        for teller in (EXAMPLE, example_machine()):
            found = extra(teller=teller, one="ab", other="b")
            self.assertEqual((found.more, found.before, found.behind), (2, "b", ""))
            found = extra(teller, "", "ab")
            self.assertEqual((found.more, found.before, found.behind), (0, "", "b"))
            found = self.check(teller, "b", "ab", 4)
            self.assertEqual(found.before, "")

    def test_against_all_short_surroundings(self):
        random = Random(110)
        seen = {}
        for _ in range(150):
            asks = random.choice(("a", "ab"))
            if random.randrange(2):
                teller = random_store(random, asks, random.randint(1, 3), 4)
            else:
                teller = potential_machine(random, asks, random.randint(1, 4), 3, 0)
            one, other = random.choice(rows_up_to(asks, 3)), random.choice(rows_up_to(asks, 3))
            found = self.check(teller, one, other, 3)
            sign = (found.more > 0) - (found.more < 0)
            seen[sign] = seen.get(sign, 0) + 1
        self.assertGreater(min(seen[-1], seen[0], seen[1]), 5)

    def test_a_row_over_itself(self):
        for teller in (EXAMPLE, ENDLESS, counting_store(5)):
            for row in ("", "a", "aa"):
                found = extra(teller, row, row)
                self.assertEqual((found.more, found.before, found.behind), (0, "", ""))

    def test_below_0(self):
        store = Store("a", (7,), (((3,),),), (0,))
        found = extra(store, "a", "aaa")
        self.assertEqual((found.more, found.before, found.behind), (-6, "", ""))

    def test_the_least_row_behind_it(self):
        # Ahead of "a" both rows come to one kind; with "b" ahead the difference shows behind two more asks.
        machine = Machine("ab", 0, (((1, 0), (2, 0)), ((1, 0), (1, 0)), ((3, 0), (2, 0)), ((4, 0), (3, 0)), ((1, 5), (1, 5))))
        found = self.check(machine, "a", "", 3)
        self.assertEqual((found.more, found.before, found.behind), (5, "b", "aa"))

    def test_amounts_that_are_not_bounded(self):
        found = extra(ENDLESS, "", "b")
        self.assertEqual((found.more, found.before, found.behind), (None, None, None))
        random = Random(111)
        seen = {True: 0, False: 0}
        for _ in range(120):
            machine = random_machine(random, "ab", random.randint(2, 4), 2)
            one, other = random.choice(rows_up_to("ab", 2)), random.choice(rows_up_to("ab", 2))
            least, far = least_machine(machine), distances(machine)
            ends = []
            for row in least.rows:
                ends.append((least.kind_of(row + one), least.kind_of(row + other)))
            bounded = all(far[i][j] is not None for i, j in ends)
            found = extra(machine, one, other)
            if bounded:
                self.check(machine, one, other, 3)
            else:
                self.assertEqual((found.more, found.before, found.behind), (None, None, None))
            seen[bounded] += 1
        self.assertGreater(min(seen.values()), 20)

    def test_many_kinds_and_long_rows(self):
        found = extra(chain_machine(1000), "a" * 2000, "")
        self.assertEqual((found.more, found.before, found.behind), (1, "", ""))
        found = extra(EXAMPLE, "ab" * 1000, "ba" * 1000)
        self.assertEqual((found.more, found.before, found.behind), (2, "b", "a"))


class ErrorTests(unittest.TestCase):
    def test_the_first_wrong_row(self):
        many = counting_store(1000)
        for row in (None, "b", "a" * 2001, ("a",), 1, True, ["a"], b"a"):
            for one, other in ((row, "c"), ("a", row), (row, row)):
                error = caught(extra, many, one, other)
                self.assertIsInstance(error, BadRow)
                self.assertIs(error.thing, row)
        error = caught(extra, many, "", "")
        self.assertEqual((type(error), error.word), (TooMany, "standing"))


if __name__ == "__main__":
    unittest.main()
