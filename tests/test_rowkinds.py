import unittest
from random import Random

from afterwise.errors import BadKind, BadRow, NotHindsight, TooMany
from afterwise.machines import Machine, least_machine
from afterwise.rowkinds import RowKinds, rows_alike
from tests.helpers import (
    NO_INTEGERS, caught, chain_machine, counting_store, example_machine, example_store, random_machine, random_store,
    rows_up_to,
)
from tests.test_distances import potential_machine
from tests.test_extras import ENDLESS, amount

EXAMPLE = example_store()
TURNED = Machine("ab", 0, (((0, 0), (1, 0)), ((1, 1), (1, 2))))


def do_the_same(teller, one, other):
    """Whether two rows do the same, by their kinds and gains from each kind of the least machine."""
    machine = least_machine(teller)
    ends = []
    for row in machine.rows:
        kind = machine.kind_of(row)
        ends.append((machine.kind_of(row + one), machine.kind_of(row + other),
                     machine.sum_from(kind, one) - machine.sum_from(kind, other)))
    return all(i == j and more == ends[0][2] for i, j, more in ends)


def round_machine(kinds, more):
    """A machine that goes round its kinds; it has as many row kinds as kinds if nothing is added elsewhere."""
    return Machine("a", 0, [(((k + 1) % kinds, more * int(k == 0)),) for k in range(kinds)])


def random_teller(random):
    """A store or a machine that is a hindsight."""
    asks = random.choice(("a", "ab"))
    if random.randrange(2):
        return random_store(random, asks, random.randint(1, 3), 3)
    return potential_machine(random, asks, random.randint(1, 3), 2, 0)


class RowsAlikeTests(unittest.TestCase):
    def check(self, teller, one, other):
        verdict = rows_alike(teller, one, other)
        self.assertEqual(bool(verdict), verdict.holds)
        self.assertIs(verdict.holds, do_the_same(teller, one, other))
        if verdict.holds:
            self.assertEqual((verdict.first, verdict.second), (None, None))
            for before in rows_up_to(teller.asks, 2):
                for behind in rows_up_to(teller.asks, 2):
                    self.assertEqual(amount(teller, one, other, before, behind), verdict.more)
        else:
            self.assertIsNone(verdict.more)
            self.assertIsInstance(verdict.first, tuple)
            differences = [amount(teller, one, other, *pair) for pair in (verdict.first, verdict.second)]
            self.assertNotEqual(*differences)
        return verdict

    def test_the_example(self):
        for teller in (EXAMPLE, example_machine()):
            verdict = rows_alike(teller=teller, one="aba", other="a")
            self.assertEqual((verdict.holds, verdict.more), (True, 2))
            self.assertIs(self.check(teller, "aba", "a").holds, True)
            self.assertEqual(self.check(teller, "aa", "a").more, 0)
            self.assertEqual(self.check(teller, "ab", "abab").more, -2)
            for one, other in (("a", "b"), ("ab", "b"), ("", "a"), ("ab", "ba")):
                self.assertIs(self.check(teller, one, other).holds, False)

    def test_stores_and_machines(self):
        random = Random(120)
        seen = {True: 0, False: 0}
        for _ in range(300):
            teller = random.choice((random_teller(random), random_machine(random, "ab", random.randint(1, 4), 2)))
            rows = rows_up_to(teller.asks, 4)
            seen[self.check(teller, random.choice(rows), random.choice(rows)).holds] += 1
        self.assertGreater(min(seen.values()), 50)

    def test_machines_that_are_no_hindsights(self):
        self.assertIs(self.check(ENDLESS, "ab", "ba").holds, False)
        self.assertEqual(self.check(ENDLESS, "ba", "bba").more, -2)
        endless = Machine("ab", 0, (((0, 1), (1, 0)), ((1, 0), (1, 0))))
        self.assertEqual(self.check(endless, "b", "bb").more, 0)
        # Both rows lead from each kind to one kind, but the gains differ otherwise from each.
        uneven = Machine("ab", 0, (((0, 1), (1, 0)), ((0, 0), (1, 0))))
        verdict = self.check(uneven, "a", "aa")
        self.assertIs(verdict.holds, True)
        self.assertIs(self.check(Machine("ab", 0, (((0, 1), (1, 0)), ((0, 3), (1, 0)))), "a", "ba").holds, False)

    def test_long_rows(self):
        self.assertEqual(rows_alike(EXAMPLE, "ab" * 1000, "ab").more, 1998)

    def test_errors(self):
        many = counting_store(1000)
        for row in (None, "b", "a" * 2001, ("a",), 1, True, ["a"], b"a"):
            for one, other in ((row, "c"), ("a", row), (row, row)):
                error = caught(rows_alike, many, one, other)
                self.assertIsInstance(error, BadRow)
                self.assertIs(error.thing, row)
        error = caught(rows_alike, many, "", "")
        self.assertEqual((type(error), error.word), (TooMany, "standing"))


class RowKindTests(unittest.TestCase):
    def check(self, teller, length):
        kinds = RowKinds(teller)
        machine = least_machine(teller)
        self.assertIsInstance(kinds.rows, tuple)
        self.assertEqual(kinds.rows[0], "")
        self.assertEqual(list(kinds.rows), sorted(set(kinds.rows), key=lambda row: (len(row), row)))
        self.assertEqual((len(kinds), list(kinds)), (len(kinds.rows), list(kinds.rows)))
        self.assertEqual(len(kinds.follow), len(kinds))
        for number, row in enumerate(kinds):
            self.assertEqual(kinds[number], row)
            self.assertEqual(kinds.number_of(row), (number, 0))
            self.assertIs(row in kinds, True)
            for ask, (then, more) in zip(teller.asks, kinds.follow[number]):
                verdict = rows_alike(teller, row + ask, kinds[then])
                self.assertEqual((verdict.holds, verdict.more), (True, more))
        normals = []
        for row in rows_up_to(teller.asks, length):
            same = [normal for normal in normals if do_the_same(machine, row, normal)]
            if not same:
                normals.append(row)
            # The normal row is the least one that does the same.
            normal = same[0] if same else row
            self.assertEqual(kinds.normal(row), normal)
            number, more = kinds.number_of(row)
            self.assertEqual((kinds[number], more), (normal, rows_alike(teller, row, normal).more))
            self.assertIs(row in kinds, row == normal)
        self.assertEqual(tuple(normals), tuple(row for row in kinds if len(row) <= length))
        return kinds

    def test_the_example(self):
        for teller in (EXAMPLE, example_machine()):
            kinds = self.check(teller, 5)
            self.assertEqual(kinds.rows, ("", "a", "b", "ab", "ba"))
            self.assertEqual(kinds.follow, (((1, 0), (2, 0)), ((1, 0), (3, 0)), ((4, 0), (2, 0)), ((1, 2), (3, 0)), ((4, 0), (2, 2))))
            self.assertEqual(kinds.number_of(row="babab"), (2, 4))
            self.assertEqual(kinds.normal(row="babab"), "b")
            self.assertEqual(RowKinds(teller=teller).number_of("ab" * 1000), (3, 1998))

    def test_small_tellers(self):
        random = Random(121)
        sizes = []
        for _ in range(60):
            teller = random_teller(random)
            try:
                sizes.append(len(self.check(teller, 4)))
            except TooMany as error:
                self.assertEqual(error.word, "row kind")
        self.assertGreater(len(sizes), 50)
        self.assertGreater(max(sizes), 20)

    def test_one_row_kind(self):
        kinds = self.check(Machine("ab", 3, (((0, 2), (0, -1)),)), 3)
        self.assertEqual((kinds.rows, kinds.follow), (("",), (((0, 2), (0, -1)),)))
        self.assertEqual(kinds.number_of("aab"), (0, 3))

    def test_numbers(self):
        kinds = RowKinds(EXAMPLE)
        for thing in (5, -1, 10 ** 50, slice(0, 2), *NO_INTEGERS, "a", ""):
            error = caught(lambda: kinds[thing])
            self.assertIsInstance(error, BadKind)
            self.assertIs(error.thing, thing)

    def test_rows(self):
        kinds = RowKinds(EXAMPLE)
        for thing in (None, "c", "a" * 2001, ("a",), 1, True, ["a"], b"a", ("",), {"": 1}):
            for call in (kinds.number_of, kinds.normal):
                error = caught(call, thing)
                self.assertIsInstance(error, BadRow)
                self.assertIs(error.thing, thing)
            self.assertIs(thing in kinds, False)
        self.assertIs("aa" in kinds, False)
        self.assertIs("ab" in kinds, True)

    def test_no_hindsight(self):
        for machine, pair in ((ENDLESS, (0, 1)), (TURNED, (1, 0))):
            error = caught(RowKinds, machine)
            self.assertEqual((type(error), error.one, error.other), (NotHindsight, *pair))

    def test_400_and_401_row_kinds(self):
        kinds = RowKinds(round_machine(400, 1))
        self.assertEqual(kinds.rows, tuple("a" * k for k in range(400)))
        self.assertEqual(kinds.follow[399], ((0, 1),))
        error = caught(RowKinds, round_machine(401, 1))
        self.assertEqual((type(error), error.word), (TooMany, "row kind"))
        error = caught(RowKinds, chain_machine(401))
        self.assertEqual((type(error), error.word), (TooMany, "row kind"))

    def test_too_many_standings(self):
        error = caught(RowKinds, counting_store(1000))
        self.assertEqual((type(error), error.word), (TooMany, "standing"))
        self.assertEqual(RowKinds(counting_store(999)).rows, ("",))


if __name__ == "__main__":
    unittest.main()
