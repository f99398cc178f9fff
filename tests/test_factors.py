import unittest
from math import gcd
from random import Random

from afterwise.claims import claim
from afterwise.errors import Below, TooMany, Unlike
from afterwise.factors import factor
from afterwise.machines import Machine
from afterwise.stores import Store
from tests.helpers import caught, counting_store, example_machine, example_store, plain_tells, random_store, rows_up_to
from tests.test_claims import PlainClaim

EXAMPLE = example_store()
FREE = Store("ab", (0,), (((0,),), ((0,),)), (0,))


def priced(price, asks="a"):
    """A store with one state in which each ask has this price."""
    return Store(asks, (0,), [((price,),) for _ in asks], (0,))


class FactorTests(unittest.TestCase):
    def check(self, one, other):
        """That a verdict is right by the words of the document; the verdict."""
        verdict = factor(one, other)
        self.assertEqual(bool(verdict), verdict.holds)
        plain = PlainClaim((one, other), (0, 0), None, None)
        if verdict.ring is None:
            self.assertIs(verdict.holds, True)
            self.assertEqual((verdict.top, verdict.stem), ((0, 1), None))
            p, q = verdict.top
        else:
            self.assertLessEqual(max(len(verdict.stem), len(verdict.ring)), len(plain.spots))
            gains = []
            for factors in ((1, 0), (0, 1)):
                plain.factors = factors
                spot, _ = plain.walk(plain.first, verdict.stem)
                back, gain = plain.walk(spot, verdict.ring)
                self.assertEqual(back, spot)
                gains.append(gain)
            self.assertGreater(gains[0], 0)
            if not verdict.holds:
                self.assertEqual((gains[1], verdict.top, verdict.most), (0, None, None))
                return verdict
            p, q = verdict.top
            self.assertEqual(gcd(p, q), 1)
            self.assertGreater(min(p, q, gains[1]), 0)
            # So the worths of no lesser fraction are bounded.
            self.assertEqual(q * gains[0], p * gains[1])
        most = claim((one, other), (q, -p)).most
        self.assertEqual(verdict.most, most)
        worths = [q * plain_tells(one, row) - p * plain_tells(other, row) for row in rows_up_to(one.asks, 4)]
        self.assertLessEqual(max(worths), most)
        return verdict

    def test_random_stores(self):
        random = Random(60)
        seen = {}
        for _ in range(250):
            asks = random.choice(("a", "ab", "bcd"))
            one, other = (
                random_store(random, asks, random.randint(1, 3), random.choice((2, 4, 6))) for _ in range(2)
            )
            verdict = self.check(one, other)
            seen[verdict.top] = seen.get(verdict.top, 0) + 1
        self.assertGreater(min(seen[None], seen[0, 1]), 10)
        self.assertGreater(len(seen), 12)

    def test_like_stores(self):
        for store in (EXAMPLE, priced(3, "ab")):
            verdict = self.check(store, store)
            self.assertEqual((verdict.holds, verdict.top, verdict.most), (True, (1, 1), 0))
        verdict = self.check(FREE, FREE)
        self.assertEqual((verdict.top, verdict.most, verdict.stem, verdict.ring), ((0, 1), 0, None, None))

    def test_lowest_terms(self):
        verdict = factor(one=priced(6), other=priced(4))
        self.assertEqual((verdict.top, verdict.most, verdict.stem), ((3, 2), 0, ""))
        self.assertEqual(self.check(priced(4), priced(6)).top, (2, 3))
        great = 10 ** 59
        self.assertEqual(self.check(priced(2 * great), priced(great + 2)).top, (great, great // 2 + 1))

    def test_the_most(self):
        dear = Store("a", (5,), (((3,),),), (4,))
        self.assertEqual((factor(dear, priced(2)).top, factor(dear, priced(2)).most), ((3, 2), 18))
        self.assertEqual((factor(priced(2), dear).top, factor(priced(2), dear).most), ((2, 3), -18))
        self.assertEqual((factor(Store("a", (5,), (((0,),),), (4,)), dear).top), (0, 1))
        self.assertEqual((factor(Store("a", (5,), (((0,),),), (4,)), dear).most), 9)

    def test_a_state_more(self):
        # The example cannot change its state here: an ask costs 2 in the other state, for ever.
        stuck = Store("ab", (0,), (((0,),), ((2,),)), (0,))
        self.assertEqual(self.check(EXAMPLE, stuck).top, (1, 1))
        verdict = self.check(stuck, EXAMPLE)
        self.assertEqual((verdict.holds, set(verdict.ring)), (False, {"b"}))

    def test_over_a_store_without_prices(self):
        verdict = self.check(EXAMPLE, FREE)
        self.assertIs(verdict.holds, False)
        verdict = self.check(FREE, EXAMPLE)
        self.assertEqual((verdict.holds, verdict.top, verdict.most), (True, (0, 1), 0))

    def test_prices_that_are_paid_once_only(self):
        once = Store("ab", (0, 0), (((7, 0), (9, 0)), ((3, 9), (9, 0))), (0, 5))
        verdict = self.check(once, FREE)
        self.assertEqual((verdict.holds, verdict.top), (True, (0, 1)))
        self.assertEqual(verdict.most, max(plain_tells(once, row) for row in rows_up_to("ab", 5)))


class ErrorTests(unittest.TestCase):
    def test_unlike_asks_go_first(self):
        for one, other in ((priced(-1), EXAMPLE), (example_machine(), priced(1)), (EXAMPLE, counting_store(1000))):
            error = caught(factor, one, other)
            self.assertEqual((type(error), error.word), (Unlike, "asks"))

    def test_prices_below_0_and_machines(self):
        below = [
            Store("ab", (0, -1), EXAMPLE.costs, (0, 0)), Store("ab", (-1, 5), EXAMPLE.costs, (0, 0)),
            Store("ab", (0, 1), EXAMPLE.costs, (9, -1)), Store("ab", (0, 1), EXAMPLE.costs, (-5, 9)),
        ]
        for number in range(2):
            for one in range(2):
                for other in range(2):
                    costs = [[list(row) for row in table] for table in EXAMPLE.costs]
                    costs[number][one][other] = -1
                    below.append(Store("ab", (0, 1), costs, (0, 0)))
        for wrong in below + [example_machine(), Machine("ab", 0, (((0, 1), (0, 1)),))]:
            for one, other in ((wrong, EXAMPLE), (EXAMPLE, wrong), (wrong, wrong)):
                self.assertIsInstance(caught(factor, one, other), Below)

    def test_too_many(self):
        many = counting_store(1000)
        for one, other in ((many, priced(1)), (priced(1), many)):
            error = caught(factor, one, other)
            self.assertEqual((type(error), error.word), (TooMany, "standing"))
        below = Store("a", (0, 0), (((0, 1000), (0, 1)),), (0, -1))
        self.assertIsInstance(caught(factor, below, many), Below)

    def test_1000_and_1001_spots(self):
        def ring_store(states):
            """A store that goes round its states, with a price only at the first of them."""
            far = 10 ** 6
            table = [[far] * states for _ in range(states)]
            for state in range(states):
                table[state][(state + 1) % states] = int(state == 0)
            return Store("a", [0] + [far ** 2] * (states - 1), (table,), [0] * states)
        verdict = factor(ring_store(25), ring_store(40))
        self.assertEqual((verdict.top, verdict.holds), ((8, 5), True))
        error = caught(factor, ring_store(77), ring_store(13))
        self.assertEqual((type(error), error.word), (TooMany, "spot"))


if __name__ == "__main__":
    unittest.main()
