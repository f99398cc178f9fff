import unittest
from random import Random

from afterwise.errors import TooMany
from afterwise.forgetting import forgetting
from afterwise.machines import Machine, least_machine
from tests.helpers import (
    caught, chain_machine, counting_store, example_machine, example_store, random_machine, random_store, rows_up_to,
)
from tests.test_claims import ring_machine

EXAMPLE = example_store()


def lot_behind(machine, lot, row):
    """The set of kinds to which a row leads from a set."""
    return frozenset(machine.kind_of(machine.rows[kind] + row) for kind in lot)


def cerny_machine(kinds):
    """A machine whose least row that forgets has the square of kinds - 1 asks; a step tells where it is."""
    return Machine("ab", 0, [(((k + 1) % kinds, int(k == 0)), (1 if k == 0 else k, 2 * int(k == 0))) for k in range(kinds)])


def lot_machine(kinds):
    """A machine from whose set of all kinds rows lead to very many sets: the kinds can be turned, and one be left out."""
    steps = []
    for k in range(kinds):
        swapped = {0: 1, 1: 0}.get(k, k)
        steps.append((((k + 1) % kinds, int(k == 0)), (swapped, 0), (1 if k == 0 else k, 0)))
    return Machine("abc", 0, steps)


class ForgettingTests(unittest.TestCase):
    def check(self, teller, length):
        """A verdict against going through all sets and all short rows."""
        machine = least_machine(teller)
        verdict = forgetting(teller)
        self.assertEqual(bool(verdict), verdict.holds)
        every = frozenset(range(len(machine)))
        forgets = [row for row in rows_up_to(machine.asks, length) if len(lot_behind(machine, every, row)) == 1]
        if forgets:
            self.assertEqual((verdict.holds, verdict.row, verdict.pairs), (True, forgets[0], None))
        if verdict.holds:
            self.assertEqual(len(lot_behind(machine, every, verdict.row)), 1)
            self.assertEqual(verdict.depth, self.depth(machine, every))
        else:
            self.assertEqual((verdict.row, verdict.depth), (None, None))
            apart = [
                (one, other) for one in range(len(machine)) for other in range(one + 1, len(machine))
                if not self.meet(machine, one, other)
            ]
            self.assertIsInstance(verdict.pairs, tuple)
            self.assertEqual(verdict.pairs, tuple(apart))
            self.assertNotEqual(verdict.pairs, ())
        return verdict

    def depth(self, machine, every):
        lots = {every}
        for depth in range(2 ** len(machine)):
            if all(len(lot) == 1 for lot in lots):
                return depth
            lots = {lot_behind(machine, lot, ask) for lot in lots for ask in machine.asks}
        return None

    def meet(self, machine, one, other):
        found, queue = {(one, other)}, [(one, other)]
        for pair in queue:
            for (i, _), (j, _) in zip(machine.steps[pair[0]], machine.steps[pair[1]]):
                if i == j:
                    return True
                if (i, j) not in found:
                    found.add((i, j))
                    queue.append((i, j))
        return False

    def test_the_example(self):
        for teller in (EXAMPLE, example_machine()):
            verdict = self.check(teller, 3)
            self.assertEqual((verdict.holds, verdict.row, verdict.depth, verdict.pairs), (True, "a", 1, None))
        self.assertEqual(forgetting(teller=EXAMPLE).row, "a")

    def test_one_kind(self):
        verdict = self.check(Machine("abc", 7, (((0, 1), (0, -1), (0, 0)),)), 2)
        self.assertEqual((verdict.holds, verdict.row, verdict.depth, verdict.pairs), (True, "", 0, None))
        # Of two kinds that are alike there is only one.
        self.assertEqual(forgetting(Machine("a", 0, (((1, 2),), ((0, 2),)))).row, "")

    def test_no_row_forgets(self):
        verdict = self.check(ring_machine("ab", 4), 6)
        self.assertEqual(verdict.pairs, ((0, 1), (0, 2), (0, 3), (1, 2), (1, 3), (2, 3)))
        # Two kinds each can be led to one, but never all of them.
        steps = (((1, 1), (2, 0)), ((1, 0), (1, 0)), ((2, 0), (2, 3)))
        verdict = self.check(Machine("ab", 0, steps), 6)
        self.assertEqual(verdict.pairs, ((1, 2),))

        # Here two kinds are led to the kind 0 alone, which always stands apart from both.
        verdict = self.check(Machine("ab", 0, (((1, 0), (0, 0)), ((0, 0), (2, 0)), ((0, 1), (1, 0)))), 6)
        self.assertEqual(verdict.pairs, ((0, 1), (0, 2)))

    def test_depths(self):
        # Whatever comes, behind 5 asks nothing is left of the beginning.
        steps = [((min(k + 1, 5), int(k == 4)),) for k in range(6)]
        verdict = self.check(Machine("a", 0, steps), 7)
        self.assertEqual((verdict.row, verdict.depth), ("aaaaa", 5))
        # The ask b keeps every kind where it is, so rows of any length need not forget.
        steps = [((min(k + 1, 5), int(k == 4)), (k, 0)) for k in range(6)]
        verdict = self.check(Machine("ab", 0, steps), 6)
        self.assertEqual((verdict.row, verdict.depth), ("aaaaa", None))
        # Each kind tells the last two asks.
        steps = [((2 * k % 4, k), ((2 * k + 1) % 4, 0)) for k in range(4)]
        verdict = self.check(Machine("ab", 0, steps), 4)
        self.assertEqual((verdict.row, verdict.depth), ("aa", 2))

    def test_a_long_least_row(self):
        verdict = forgetting(cerny_machine(6))
        self.assertEqual((len(verdict.row), verdict.depth), (25, None))
        self.assertEqual(len(forgetting(cerny_machine(10)).row), 81)

    def test_random_tellers(self):
        random = Random(160)
        seen = {}
        for _ in range(400):
            asks = random.choice(("a", "ab", "abc"))
            if random.randrange(3):
                teller = random_machine(random, asks, random.randint(1, 5), 1)
            else:
                teller = random_store(random, asks, random.randint(1, 3), 3)
            verdict = self.check(teller, 4 if len(asks) > 2 else 6)
            key = (verdict.holds, verdict.depth is None)
            seen[key] = seen.get(key, 0) + 1
        self.assertGreater(min(seen.values()), 10)
        self.assertEqual(len(seen), 3)


class BoundTests(unittest.TestCase):
    def test_2000_sets_and_more(self):
        # A chain of k kinds leads from the set of all kinds to k sets.
        verdict = forgetting(chain_machine(1000))
        self.assertEqual((verdict.row, verdict.depth), ("b", 999))
        steps = [((min(k + 1, 999), int(k == 998)),) for k in range(1000)]
        self.assertEqual(forgetting(Machine("a", 0, steps)).depth, 999)

    def sets_of(self, machine):
        every = frozenset(range(len(machine)))
        found, queue = {every}, [every]
        for lot in queue:
            for number in range(len(machine.asks)):
                then = frozenset(machine.steps[kind][number][0] for kind in lot)
                if then not in found:
                    found.add(then)
                    queue.append(then)
        return len(found)

    def chains(self, roots, one, other):
        """A machine from whose set of all kinds rows lead to roots + one * other sets.

        Each of the first two asks moves the kinds of a chain on; the roots, which are left one by one, lead to both.
        """
        steps = [((k + 1, 10 + k), (k + 1, 0)) for k in range(roots - 1)]
        steps.append(((roots, 9), (roots + one, 9)))
        for k in range(one):
            steps.append(((roots + min(k + 1, one - 1), int(k == one - 2)), (roots + k, 0)))
        for k in range(other):
            steps.append(((roots + one + k, 5), (roots + one + min(k + 1, other - 1), int(k == other - 2))))
        return Machine("ab", 0, steps)

    def test_2000_sets_and_one_more(self):
        right, wrong = self.chains(2, 37, 54), self.chains(3, 37, 54)
        self.assertEqual((self.sets_of(right), self.sets_of(wrong)), (2000, 2001))
        self.assertEqual((len(right.least()), len(wrong.least())), (93, 94))
        verdict = forgetting(right)
        self.assertIs(verdict.holds, False)
        # The ends of both chains stay where they are.
        self.assertIn((38, 92), verdict.pairs)
        error = caught(forgetting, wrong)
        self.assertEqual((type(error), error.word), (TooMany, "lot"))

    def test_whatever_the_verdict_would_be(self):
        # The kinds are turned, two of them swapped, and two of them led to one: all sets come up.
        machine = lot_machine(11)
        self.assertEqual(self.sets_of(machine), 2047)
        self.assertEqual(caught(forgetting, machine).word, "lot")
        self.assertEqual(forgetting(lot_machine(10)).holds, True)
        # Here some row forgets, which is found soon.
        error = caught(forgetting, cerny_machine(11))
        self.assertEqual((type(error), error.word), (TooMany, "lot"))

    def test_too_many_standings(self):
        error = caught(forgetting, counting_store(1000))
        self.assertEqual((type(error), error.word), (TooMany, "standing"))
        self.assertEqual(forgetting(counting_store(999)).holds, True)

    def test_1000_kinds_that_no_row_leads_to_one(self):
        verdict = forgetting(ring_machine("ab", 1000))
        self.assertEqual((verdict.holds, len(verdict.pairs)), (False, 499500))
        self.assertEqual(verdict.pairs[:2] + verdict.pairs[-1:], ((0, 1), (0, 2), (998, 999)))


if __name__ == "__main__":
    unittest.main()
