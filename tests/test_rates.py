import unittest
from fractions import Fraction
from math import gcd
from random import Random

from afterwise.errors import BadCounts, BadFactors, TooMany, Unlike
from afterwise.gates import Gate
from afterwise.machines import Machine
from afterwise.rates import judge_rate, rate
from tests.helpers import NO_INTEGERS, caught, counting_store, example_store, rows_up_to
from tests.test_claims import PlainClaim, draw_claim, ring_machine

EXAMPLE = example_store()
LENGTH = Machine("ab", 0, (((0, 1), (0, 1)),))


def best_mean(plain):
    """The greatest quotient of gain and length of all short rings, None if there is none."""
    means = []
    for spot in plain.spots:
        ways = [(spot, 0)]
        for length in range(1, len(plain.spots) + 1):
            ways = [(then, gain + more) for at, gain in ways for then, more in plain.moves(at).values()]
            # Of the ways to one spot only the best can be part of a best ring.
            best = {}
            for at, gain in ways:
                best[at] = max(gain, best.get(at, gain))
            ways = list(best.items())
            if spot in best:
                means.append(Fraction(best[spot], length))
    return max(means, default=None)


def height_by_rows(plain, spot, top, length):
    """The greatest sum of what short rows from a spot gain beyond the top."""
    best, sums = 0, {spot: 0}
    for _ in range(length):
        later = {}
        for at, total in sums.items():
            for then, more in plain.moves(at).values():
                there = total + top[1] * more - top[0]
                later[then] = max(there, later.get(then, there))
        sums = later
        best = max([best, *sums.values()])
    return best


class RateTests(unittest.TestCase):
    def check(self, tellers, factors, counts=None, gate=None):
        plain = PlainClaim(tellers, factors, counts, gate)
        found = rate(tellers, factors, counts=counts, gate=gate)
        mean = best_mean(plain)
        if mean is None:
            self.assertIsNone(found)
            return found
        over, under = found.top
        self.assertIsInstance(found.top, tuple)
        self.assertGreaterEqual(under, 1)
        self.assertEqual(gcd(over, under), 1)
        self.assertEqual(Fraction(over, under), mean)
        there, _ = plain.walk(plain.first, found.stem)
        back, gain = plain.walk(there, found.ring)
        self.assertEqual((there, Fraction(gain, len(found.ring))), (back, mean))
        self.assertLessEqual(max(len(found.stem), len(found.ring)), len(plain.spots))
        self.assertEqual([spot for spot, _ in found.heights], sorted(plain.spots))
        for spot, height in found.heights:
            self.assertEqual(height, height_by_rows(plain, spot, found.top, 2 * len(plain.spots)))
        self.assertIs(judge_rate(tellers, factors, found.top, found.heights, counts=counts, gate=gate), True)
        return found

    def test_the_example(self):
        found = self.check((EXAMPLE,), (1,))
        self.assertEqual((found.top, found.heights), ((1, 1), (((0, 0), 0), ((1, 0), 0))))
        found = rate(tellers=[EXAMPLE], factors=[3], counts=[0, -1], gate=None)
        self.assertEqual((found.top, sorted(found.ring)), ((5, 2), ["a", "b"]))
        self.assertEqual(self.check((EXAMPLE,), (3,), [0, -1]).heights, (((0, 0), 0), ((1, 0), 1)))
        self.assertEqual(self.check((EXAMPLE,), (-1,)).top, (0, 1))
        self.assertEqual(self.check((EXAMPLE,), (-1,), (-3, -4)).top, (-3, 1))
        self.assertEqual(self.check((EXAMPLE, LENGTH), (2, -3)).top, (-1, 1))

    def test_against_short_rows(self):
        random = Random(140)
        seen = {}
        for _ in range(400):
            tellers, factors, counts, gate = draw_claim(random)
            if len(PlainClaim(tellers, factors, counts, gate).spots) > 30:
                continue
            found = self.check(tellers, factors, counts, gate)
            key = None if found is None else (found.top[0] > 0) - (found.top[0] < 0)
            seen[key] = seen.get(key, 0) + 1
        self.assertGreater(min(seen.values()), 10)
        self.assertEqual(len(seen), 4)

    def test_only_finitely_many_rows_pass(self):
        for gate in (Gate("ab", ((None, None),)), Gate("ab", ((1, 2), (2, 2), (None, None)))):
            self.assertIsNone(self.check((EXAMPLE,), (1,), (7, 7), gate))
        # One more step leads round, even though no row comes back to the beginning.
        gate = Gate("ab", ((1, 2), (2, 2), (None, 2)))
        found = self.check((EXAMPLE,), (1,), (7, 9), gate)
        self.assertEqual((found.top, found.ring), ((9, 1), "b"))
        self.assertEqual(len(found.stem) > 0, True)

    def test_great_numbers(self):
        great = 10 ** 59
        found = self.check((EXAMPLE,), (great,), (0, -1))
        self.assertEqual(found.top, (2 * great - 1, 2))
        self.assertEqual(self.check((EXAMPLE,), (great,), (-great, -great)).top, (0, 1))

    def test_1000_and_1001_spots(self):
        tellers = (ring_machine("a", 8), ring_machine("a", 125))
        found = rate(tellers, (3, -5))
        self.assertEqual((found.top, len(found.ring), len(found.heights)), ((67, 200), 1000, 1000))
        self.assertIs(judge_rate(tellers, (3, -5), (67, 200), found.heights), True)
        # Each kind has a ring of its own, and the last one, to which the longest way leads, has the best.
        steps = [((min(k + 1, 999), 0), (k, k)) for k in range(1000)]
        found = rate((Machine("ab", 0, steps),), (1,))
        self.assertEqual((found.top, found.stem, found.ring), ((999, 1), "a" * 999, "b"))
        steps = [((min(k + 1, 999), 0), (k, 1000 - k)) for k in range(1000)]
        self.assertEqual(rate((Machine("ab", 0, steps),), (1,)).top, (1000, 1))
        wrong = (ring_machine("a", 77), ring_machine("a", 13))
        for call in (lambda: rate(wrong, (0, 0)), lambda: judge_rate(wrong, (0, 0), None, None)):
            error = caught(call)
            self.assertEqual((type(error), error.word), (TooMany, "spot"))


class JudgeRateTests(unittest.TestCase):
    def judge(self, top, heights):
        return judge_rate((EXAMPLE,), (3,), top, heights, counts=(0, -1))

    def test_told_heights_in_any_order(self):
        random = Random(141)
        judged = 0
        for _ in range(200):
            tellers, factors, counts, gate = draw_claim(random)
            found = rate(tellers, factors, counts=counts, gate=gate)
            if found is None:
                continue
            judged += 1
            over, under = found.top

            def judge(top, heights):
                return judge_rate(tellers, factors, top, heights, counts=counts, gate=gate)
            heights = [[list(spot), height] for spot, height in found.heights]
            random.shuffle(heights)
            self.assertIs(judge([over, under], heights), True)
            self.assertIs(judge(found.top, [[spot, height + 2] for spot, height in heights]), True)
            self.assertIs(judge((over + 1, under), heights), True)
            self.assertIs(judge((over - 1, under), heights), False)
            for times in (2, 3):
                many = [[spot, times * height] for spot, height in heights]
                self.assertIs(judge((times * over, times * under), many), True)
                # No heights show less than the rate, however great they are.
                self.assertIs(judge((times * over - 1, times * under), many), False)
            at = random.randrange(len(heights))
            self.assertIs(judge(found.top, heights[:at] + heights[at + 1:]), False)
            self.assertIs(judge(found.top, heights + [heights[at]]), False)
            lowered = [(spot, height - (k == at)) for k, (spot, height) in enumerate(found.heights)]
            if found.heights[at][1] == 0:
                self.assertIs(judge(found.top, lowered), False)
        self.assertGreater(judged, 100)

    def test_each_condition(self):
        right = (((0, 0), 0), ((1, 0), 1))
        self.assertIs(self.judge((5, 2), right), True)
        self.assertIs(
            judge_rate(tellers=(EXAMPLE,), factors=(3,), top=(5, 2), heights=right, counts=(0, -1), gate=None), True)
        for top in ((4, 2), (5, 3), (2, 1), (0, 1), (-5, 2)):
            self.assertIs(self.judge(top, right), False)
        for top in ((6, 2), (3, 1), (12, 4), (100, 1)):
            self.assertIs(self.judge(top, (((0, 0), 0), ((1, 0), top[1]))), True)
        self.assertIs(self.judge((10, 4), right), False)
        self.assertIs(self.judge((10, 4), (((0, 0), 0), ((1, 0), 2))), True)
        self.assertIs(self.judge((5, 2), (((0, 0), 0), ((1, 0), 0))), False)
        self.assertIs(self.judge((5, 2), (((0, 0), 0), ((1, 0), 2))), False)
        self.assertIs(self.judge((5, 2), (((0, 0), -1), ((1, 0), 0))), False)
        self.assertIs(self.judge((5, 2), right[:1]), False)
        self.assertIs(self.judge((5, 2), right[1:]), False)
        self.assertIs(self.judge((5, 2), ()), False)
        self.assertIs(self.judge((5, 2), right + right[1:]), False)

    def test_wrong_forms(self):
        right = (((0, 0), 0), ((1, 0), 1))
        for thing in (None, 5, (5,), (5, 2, 1), "52", (5, 0), (5, -2), (-5, -2), ((5, 2),), {5: 1, 2: 1}):
            self.assertIs(self.judge(thing, right), False)
        for thing in NO_INTEGERS:
            self.assertIs(self.judge((5, thing), right), False)
            self.assertIs(self.judge((thing, 2), right), False)
            self.assertIs(self.judge((5, 2), (right[0], ((1, 0), thing))), False)
            self.assertIs(self.judge((5, 2), (right[0], ((1, thing), 1))), False)
        for thing in (None, 1, "ab", {(0, 0): 0, (1, 0): 1}, right[0], (right,), right + (((2, 0), 9),), right + (((1, 1), 9),)):
            self.assertIs(self.judge((5, 2), thing), False)

    def test_spots_to_which_no_row_leads(self):
        gate = Gate("ab", ((0, None), (1, 1)))
        right = (((0, 0), 0),)
        def judge(heights):
            return judge_rate((EXAMPLE,), (1,), (0, 1), heights, gate=gate)
        self.assertIs(judge(right), True)
        self.assertIs(judge(right + (((1, 0), 1),)), True)
        self.assertIs(judge(right + (((1, 0), 0),)), False)
        self.assertIs(judge(right + (((1, 1), 9), ((0, 1), 9))), False)


class ErrorTests(unittest.TestCase):
    def test_errors_in_their_order(self):
        other = Machine("ac", 0, (((0, 0), (0, 0)),))
        calls = (rate, lambda tellers, factors, **more: judge_rate(tellers, factors, None, 1, **more))
        for call in calls:
            error = caught(call, (EXAMPLE, other), None, counts=1, gate=Gate.wide("a"))
            self.assertEqual((type(error), error.word), (Unlike, "asks"))
            for factors in ((), (1,), (1, 2, 3), "12", None, (1, True), [1, None]):
                error = caught(call, (EXAMPLE, LENGTH), factors, counts=1, gate=Gate.wide("a"))
                self.assertIsInstance(error, BadFactors)
                self.assertIs(error.thing, factors)
            for counts in ((), (1,), (1, 2, 3), "12", 0, False, (1, True)):
                error = caught(call, (EXAMPLE,), (1,), counts=counts, gate=Gate.wide("a"))
                self.assertIsInstance(error, BadCounts)
                self.assertIs(error.thing, counts)
            error = caught(call, (counting_store(1000),), (1,), gate=Gate.wide("b"))
            self.assertEqual((type(error), error.word), (Unlike, "gate"))
            tellers = (ring_machine("a", 77), ring_machine("a", 13), counting_store(1000))
            error = caught(call, tellers, (0, 0, 0))
            self.assertEqual((type(error), error.word), (TooMany, "standing"))

    def test_nothing_is_changed(self):
        tellers, factors, counts, heights = [EXAMPLE], [3], [0, -1], [[[0, 0], 0], [[1, 0], 1]]
        rate(tellers, factors, counts=counts)
        self.assertIs(judge_rate(tellers, factors, [5, 2], heights, counts=counts), True)
        self.assertEqual((tellers, factors, counts), ([EXAMPLE], [3], [0, -1]))
        self.assertEqual(heights, [[[0, 0], 0], [[1, 0], 1]])


if __name__ == "__main__":
    unittest.main()
