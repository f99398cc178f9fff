import unittest
from random import Random

from afterwise.errors import BadRow, BadTimes, NotHindsight, TooMany
from afterwise.machines import Machine
from afterwise.powers import powers
from afterwise.rowkinds import rows_alike
from afterwise.stores import Store
from tests.helpers import caught, counting_store, example_machine, example_store, plain_tells, rows_up_to
from tests.test_extras import ENDLESS
from tests.test_rowkinds import do_the_same, random_teller, round_machine

EXAMPLE = example_store()


class Amounts(tuple):
    """Amounts that count how often they are looked at."""

    looks = 0

    def __getitem__(self, at):
        Amounts.looks += 1
        return tuple.__getitem__(self, at)


class PowersTests(unittest.TestCase):
    def check(self, teller, row):
        """The powers of a row against the rows written out."""
        found = powers(teller, row)
        begin, period = found.begin, found.period
        self.assertGreaterEqual(begin, 0)
        self.assertGreaterEqual(period, 1)
        last = begin + period
        verdict = rows_alike(teller, row * last, row * begin)
        self.assertEqual((verdict.holds, verdict.more), (True, found.more))
        for one in range(last):
            for other in range(one):
                self.assertIs(do_the_same(teller, row * one, row * other), False)
        for times in range(last + 2 * period + 2):
            self.assertEqual(found.tells(times), plain_tells(teller, row * times))
        for rounds in (1, 10 ** 10, 10 ** 40):
            for times in (begin, last - 1):
                told = plain_tells(teller, row * times) + rounds * found.more
                self.assertEqual(found.tells(times + rounds * period), told)
        return found

    def test_the_example(self):
        for teller in (EXAMPLE, example_machine()):
            found = self.check(teller, "ab")
            self.assertEqual((found.begin, found.period, found.more), (1, 1, 2))
            self.assertEqual(found.tells(times=10 ** 40), 2 * 10 ** 40 - 1)
            found = self.check(teller, "a")
            self.assertEqual((found.begin, found.period, found.more), (1, 1, 0))
        found = powers(teller=EXAMPLE, row="ba" * 1000)
        self.assertEqual((found.begin, found.period, found.more, found.tells(3)), (1, 1, 2000, 6000))

    def test_rows_whose_powers_come_round_late(self):
        # Only behind 7 asks nothing more comes.
        steps = [((min(k + 1, 7), int(k == 6)),) for k in range(8)]
        found = self.check(Machine("a", 3, steps), "a")
        self.assertEqual((found.begin, found.period, found.more), (7, 1, 0))
        self.assertEqual([self.check(Machine("a", 3, steps), "a" * k).begin for k in (2, 3, 7, 8)], [4, 3, 1, 1])
        # It pays 1 for each ask, but never more than 9.
        found = self.check(Store("a", (0, 9), (((1, 9), (9, 0)),), (0, 0)), "a")
        self.assertEqual((found.begin, found.period, found.more), (9, 1, 0))

    def test_rows_with_a_longer_period(self):
        found = self.check(round_machine(6, 1), "a")
        self.assertEqual((found.begin, found.period, found.more), (0, 6, 1))
        found = self.check(round_machine(6, -5), "aaaa")
        self.assertEqual((found.begin, found.period, found.more), (0, 3, -10))
        # Two rings of 3 and 4 kinds, to which the first two asks lead.
        steps = [((1, 0), (4, 0))]
        steps += [((1 + (k + 1) % 3, 0), (0, int(k == 2))) for k in range(3)]
        steps += [((4 + (k + 1) % 4, 0), (0, 2 * int(k == 3))) for k in range(4)]
        found = self.check(Machine("ab", 0, steps), "a")
        self.assertEqual((found.begin, found.period), (1, 12))

    def test_random_hindsights(self):
        random = Random(150)
        seen = {}
        for _ in range(250):
            teller = random_teller(random)
            rows = rows_up_to(teller.asks, 4)
            found = self.check(teller, random.choice(rows[1:]))
            key = (found.begin > 1, found.period > 1)
            seen[key] = seen.get(key, 0) + 1
        self.assertGreaterEqual(min(seen[True, False], seen[False, True]), 5)

    def test_hardly_any_steps_for_great_numbers(self):
        found = powers(round_machine(40, 3), "aaa")
        found.amounts = Amounts(found.amounts)
        for times in (0, 39, 10 ** 40, 10 ** 3000):
            before = Amounts.looks
            found.tells(times)
            self.assertLessEqual(Amounts.looks - before, found.begin + found.period)

    def test_1000_kinds(self):
        found = powers(round_machine(1000, 1), "a" * 3)
        self.assertEqual((found.begin, found.period, found.more), (0, 1000, 3))
        self.assertEqual(found.tells(10 ** 9), 3 * 10 ** 6)
        # Rings of 7, 11 and 13 kinds come round together only behind 1001 times; the last kind is an end.
        steps = []
        for first, length, then in ((0, 7, 7), (7, 11, 18), (18, 13, 31)):
            steps += [((first + (k + 1) % length, 0), (31, first + k), (then, 0)) for k in range(length)]
        machine = Machine("abc", 0, [*steps, ((31, 0), (31, 0), (31, 0))])
        found = powers(machine, "a")
        self.assertEqual((found.begin, found.period, found.more), (0, 1001, 0))
        self.assertEqual(powers(machine, "a" * 7).period, 143)


class ErrorTests(unittest.TestCase):
    def test_wrong_rows(self):
        for teller in (EXAMPLE, ENDLESS, counting_store(1000)):
            for row in ("", "c", "A", None, 1, True, ("a",), ["a"], b"a", "a" * 2001, "a "):
                error = caught(powers, teller, row)
                self.assertIsInstance(error, BadRow)
                self.assertIs(error.thing, row)

    def test_tellers_that_are_no_hindsights(self):
        error = caught(powers, ENDLESS, "a")
        self.assertEqual((type(error), error.one, error.other), (NotHindsight, 0, 1))
        # The kinds are those of the least machine, in which they have other numbers.
        turned = Machine("ab", 0, [ENDLESS.steps[0], *[((2, 0), (2, 2))] * 2])
        steps = (((0, 1), (2, 0)), ((1, 5), (1, 5)), ((2, 0), (2, 2)))
        for teller in (turned, Machine("ab", 0, steps)):
            error = caught(powers, teller, "ab")
            self.assertEqual((type(error), error.one, error.other), (NotHindsight, 0, 1))

    def test_too_many_standings(self):
        error = caught(powers, counting_store(1000), "a")
        self.assertEqual((type(error), error.word), (TooMany, "standing"))

    def test_wrong_times(self):
        found = powers(EXAMPLE, "ab")
        for times in (-1, -10 ** 40, True, False, None, "1", 1.0, (1,), b"1"):
            error = caught(found.tells, times)
            self.assertIsInstance(error, BadTimes)
            self.assertIs(error.thing, times)


if __name__ == "__main__":
    unittest.main()
