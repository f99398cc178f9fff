import unittest
from random import Random

from afterwise.claims import claim, judge_heights, judge_ring, worth
from afterwise.errors import BadCounts, BadFactors, BadRow, TooMany, Unlike
from afterwise.gates import Gate
from afterwise.machines import Machine, least_machine
from afterwise.stores import Store
from tests.helpers import (
    NO_INTEGERS, caught, counting_store, example_machine, example_store, plain_tells, random_gate, random_machine,
    random_store, rows_up_to,
)


class PlainClaim:
    """A claim by the words of the document, with spots found row by row."""

    def __init__(self, tellers, factors, counts, gate):
        self.tellers, self.factors = tellers, factors
        self.asks = tellers[0].asks
        self.counts = (0,) * len(self.asks) if counts is None else counts
        self.gate = Gate.wide(self.asks) if gate is None else gate
        self.machines = [least_machine(teller) for teller in tellers]
        self.first = (0,) * (len(tellers) + 1)
        self.spots, queue = {self.first}, [self.first]
        for spot in queue:
            for then, _ in self.moves(spot).values():
                if then not in self.spots:
                    self.spots.add(then)
                    queue.append(then)

    def moves(self, spot):
        """For each ask that can come the next spot and the gain."""
        found = {}
        for number, ask in enumerate(self.asks):
            place = self.gate.steps[spot[-1]][number]
            if place is not None:
                steps = [machine.steps[kind][number] for machine, kind in zip(self.machines, spot)]
                gain = sum(factor * add for factor, (_, add) in zip(self.factors, steps)) + self.counts[number]
                found[ask] = (tuple(then for then, _ in steps) + (place,), gain)
        return found

    def walk(self, spot, row):
        """The spot to which a row leads, and the sum of its gains."""
        total = 0
        for ask in row:
            spot, gain = self.moves(spot)[ask]
            total += gain
        return spot, total

    def worth(self, row):
        amount = sum(factor * plain_tells(teller, row) for factor, teller in zip(self.factors, self.tellers))
        return amount + sum(count * row.count(ask) for count, ask in zip(self.counts, self.asks))


def draw_claim(random):
    """The arguments of a claim, drawn from a seeded source."""
    asks = random.choice(("a", "ab", "abc"))
    tellers = []
    for _ in range(random.randint(1, 3)):
        if random.randrange(2):
            tellers.append(random_store(random, asks, random.randint(1, 3), 3))
        else:
            tellers.append(random_machine(random, asks, random.randint(1, 3), 2))
    if random.randrange(4) == 0:
        tellers.append(tellers[0])
    factors = [random.randint(-2, 2) for _ in tellers]
    counts = random.choice((None, [random.randint(-3, 1) for _ in asks]))
    gate = random.choice((None, random_gate(random, asks, random.randint(1, 3), random.choice((0.2, 0.6)))))
    return tellers, factors, counts, gate


EXAMPLE = example_store()
# It tells how many asks there are.
LENGTH = Machine("ab", 0, (((0, 1), (0, 1)),))


class BoundedTests(unittest.TestCase):
    def check(self, plain, verdict):
        self.assertIs(verdict.holds, True)
        self.assertTrue(verdict)
        self.assertEqual((verdict.stem, verdict.ring, verdict.gain), (None, None, None))
        self.assertEqual(plain.worth(verdict.row), verdict.most)
        for row in rows_up_to(plain.asks, 4):
            if row in plain.gate:
                self.assertLessEqual(plain.worth(row), verdict.most)
                if plain.worth(row) == verdict.most:
                    self.assertLessEqual((len(verdict.row), verdict.row), (len(row), row))
        self.assertIn(verdict.row, plain.gate)
        heights = dict(verdict.heights)
        self.assertEqual(verdict.heights, tuple(sorted(heights.items())))
        self.assertEqual(set(heights), plain.spots)
        for spot, height in heights.items():
            gains = [gain + heights[then] for then, gain in plain.moves(spot).values()]
            self.assertEqual(height, max([0, *gains]))
        self.assertEqual(verdict.most - heights[plain.first], plain.worth(""))

    def test_against_all_short_rows(self):
        random = Random(51)
        seen = {True: 0, False: 0}
        for _ in range(400):
            tellers, factors, counts, gate = draw_claim(random)
            plain = PlainClaim(tellers, factors, counts, gate)
            verdict = claim(tellers, factors, counts=counts, gate=gate)
            (self.check if verdict else self.check_ring)(plain, verdict)
            seen[verdict.holds] += 1
        self.assertTrue(min(seen.values()) > 80, seen)

    def check_ring(self, plain, verdict):
        self.assertIs(verdict.holds, False)
        self.assertFalse(verdict)
        self.assertEqual((verdict.most, verdict.row, verdict.heights), (None, None, None))
        self.assertLessEqual(max(len(verdict.stem), len(verdict.ring)), len(plain.spots))
        spot, _ = plain.walk(plain.first, verdict.stem)
        self.assertNotEqual(verdict.ring, "")
        self.assertEqual(plain.walk(spot, verdict.ring), (spot, verdict.gain))
        self.assertGreater(verdict.gain, 0)

    def test_the_example(self):
        # It pays at least 0 and at most as much as there are asks.
        verdict = claim(tellers=(EXAMPLE, LENGTH), factors=(1, -1), counts=None, gate=None)
        self.assertEqual((verdict.most, verdict.row), (0, ""))
        self.assertEqual(verdict.heights, (((0, 0, 0), 0), ((1, 0, 0), 0)))
        verdict = claim([EXAMPLE], [1], counts=[-2, 0])
        self.assertEqual((verdict.most, verdict.row), (1, "b"))
        self.assertEqual(verdict.heights, (((0, 0), 1), ((1, 0), 0)))
        verdict = claim((EXAMPLE,), (2,), counts=(-1, 0))
        self.assertEqual((verdict.holds, verdict.gain % 3), (False, 0))

    def test_the_row_is_the_least_one(self):
        # Both "b" and "ab" come to 1, as do many longer rows.
        first = Machine("ab", 0, (((1, 0), (2, 1)), ((1, 0), (2, 1)), ((2, 0), (2, 0))))
        self.assertEqual((claim((first,), (1,)).most, claim((first,), (1,)).row), (1, "b"))
        second = Machine("ab", 0, (((1, 0), (1, 0)), ((2, 1), (2, 1)), ((2, 0), (2, 0))))
        self.assertEqual(claim((second,), (1,)).row, "aa")
        gate = Gate("ab", ((None, 1), (0, None)))
        self.assertEqual(claim((second,), (1,), gate=gate).row, "ba")

    def test_the_same_teller_twice_and_four_tellers(self):
        verdict = claim((EXAMPLE, EXAMPLE), (3, -3))
        self.assertEqual((verdict.most, verdict.row), (0, ""))
        self.assertEqual(verdict.heights, (((0, 0, 0), 0), ((1, 1, 0), 0)))
        verdict = claim((EXAMPLE, LENGTH, EXAMPLE, example_machine()), (1, -2, 2, -1))
        self.assertEqual((verdict.most, verdict.row), (0, ""))

    def test_gates_behind_which_only_finitely_many_rows_come(self):
        gate = Gate("ab", [[k + 1, k + 1] for k in range(9)] + [(None, None)])
        verdict = claim((EXAMPLE,), (1,), gate=gate)
        self.assertEqual((verdict.most, verdict.row), (9, "babababab"))
        self.assertEqual(dict(verdict.heights)[0, 9], 0)
        closed = Gate("ab", ((None, None),))
        verdict = claim((EXAMPLE,), (-7,), counts=(5, 5), gate=closed)
        self.assertEqual((verdict.most, verdict.row, verdict.heights), (0, "", (((0, 0), 0),)))

    def test_great_numbers(self):
        great = 10 ** 59
        verdict = claim((EXAMPLE,), (great,), counts=(-great, 1 - great))
        self.assertEqual((verdict.holds, verdict.gain), (False, 1))
        verdict = claim((EXAMPLE,), (great,), counts=(-great, -great))
        self.assertEqual((verdict.most, verdict.row), (0, ""))

    def test_nothing_is_changed(self):
        tellers, factors, counts = [EXAMPLE, LENGTH], [1, -1], [0, 0]
        claim(tellers, factors, counts=counts)
        self.assertEqual((tellers, factors, counts), ([EXAMPLE, LENGTH], [1, -1], [0, 0]))


def ring_machine(asks, kinds):
    """A machine in which every ask leads on round all kinds, and only one step adds anything."""
    return Machine(asks, 0, [[((k + 1) % kinds, int(k == 0)) for _ in asks] for k in range(kinds)])


class SpotTests(unittest.TestCase):
    def test_1000_and_1001_spots(self):
        right, wrong = (ring_machine("a", 8), ring_machine("a", 125)), (ring_machine("a", 77), ring_machine("a", 13))
        verdict = claim(right, (1, -1))
        self.assertEqual((verdict.holds, verdict.gain > 0), (False, True))
        self.assertLessEqual(len(verdict.ring), 1000)
        self.assertEqual(len(claim(right, (-1, 1), counts=(-1,)).heights), 1000)
        for call in (
            lambda: claim(wrong, (0, 0)),
            lambda: judge_heights(wrong, (0, 0), None, None),
            lambda: judge_ring(wrong, (0, 0), None, None),
        ):
            error = caught(call)
            self.assertEqual((type(error), error.word), (TooMany, "spot"))
        self.assertEqual(worth(wrong, (1, 10), "a" * 78), 62)

    def test_places_count(self):
        gate = Gate("a", [((k + 1) % 50,) for k in range(50)])
        for kinds, spots in ((20, 100), (41, 2050), (21, 1050)):
            tellers = (ring_machine("a", kinds),)
            if spots > 1000:
                self.assertEqual(caught(claim, tellers, (-1,), gate=gate).word, "spot")
            else:
                self.assertEqual(len(claim(tellers, (-1,), gate=gate).heights), spots)

    def test_1000_spots_that_are_raised_late(self):
        # Only the last of 1,000 kinds has a gain, and all ways to it lose something.
        steps = [((min(k + 1, 999), -1 if k < 998 else 2000 * int(k == 998)), (0, 0)) for k in range(1000)]
        verdict = claim((Machine("ab", 0, steps),), (1,), gate=Gate("ab", ((0, None),)))
        self.assertEqual((verdict.most, verdict.row), (1002, "a" * 999))
        steps[999] = ((999, 0), (0, -1001))
        verdict = claim((Machine("ab", 0, steps),), (1,), counts=(0, -1))
        self.assertEqual((verdict.most, verdict.row, len(verdict.heights)), (1002, "a" * 999, 1000))
        steps[999] = ((999, 0), (0, -1000))
        verdict = claim((Machine("ab", 0, steps),), (1,), counts=(0, -1))
        self.assertEqual((verdict.holds, verdict.gain, len(verdict.ring)), (False, 1, 1000))


class WorthTests(unittest.TestCase):
    def test_against_the_words_of_the_document(self):
        random = Random(52)
        for _ in range(100):
            tellers, factors, counts, _ = draw_claim(random)
            plain = PlainClaim(tellers, factors, counts, None)
            for row in rows_up_to(tellers[0].asks, 3):
                self.assertEqual(worth(tellers, factors, row, counts=counts), plain.worth(row))

    def test_the_example(self):
        self.assertEqual(worth(tellers=(EXAMPLE,), factors=(3,), row="abba", counts=(10, -1)), 24)
        self.assertEqual(worth([EXAMPLE, LENGTH], [1, -1], "ab" * 1000), -1)

    def test_wrong_rows(self):
        for row in (None, "c", "a" * 2001, ("a",), 1, True, ["a"]):
            error = caught(worth, (EXAMPLE,), (1,), row, counts="wrong")
            self.assertIsInstance(error, BadRow)
            self.assertIs(error.thing, row)


class ErrorTests(unittest.TestCase):
    def calls(self):
        """Each function as it is called with tellers and factors, counts and a gate."""
        return (
            lambda tellers, factors, **more: claim(tellers, factors, **more),
            lambda tellers, factors, **more: judge_heights(tellers, factors, None, 1, **more),
            lambda tellers, factors, **more: judge_ring(tellers, factors, True, "c", **more),
        )

    def test_unlike_asks_go_first(self):
        other = Machine("ac", 0, (((0, 0), (0, 0)),))
        for call in self.calls() + (lambda tellers, factors, **more: worth(tellers, factors, None, counts=0),):
            for tellers in ((EXAMPLE, other), [other, other, EXAMPLE], (counting_store(1000), EXAMPLE)):
                error = caught(call, tellers, None)
                self.assertEqual((type(error), error.word), (Unlike, "asks"))

    def test_wrong_factors(self):
        wrong = [(), (1,), (1, 2, 3), [1], "12", None, 1, {0: 1, 1: 1}]
        wrong += [(1, thing) for thing in NO_INTEGERS]
        for call in self.calls() + (lambda tellers, factors, **more: worth(tellers, factors, None, counts=0),):
            for factors in wrong:
                error = caught(call, (EXAMPLE, LENGTH), factors)
                self.assertIsInstance(error, BadFactors)
                self.assertIs(error.thing, factors)

    def test_wrong_counts(self):
        wrong = [(), (1,), (1, 2, 3), "12", 1, 0, False, {0: 1, 1: 1}] + [[1, thing] for thing in NO_INTEGERS]
        gate = Gate.wide("a")
        calls = self.calls() + (lambda tellers, factors, **more: worth(tellers, factors, "", counts=more["counts"]),)
        for call in calls:
            for counts in wrong:
                error = caught(call, (EXAMPLE,), (1,), counts=counts, gate=gate)
                self.assertIsInstance(error, BadCounts)
                self.assertIs(error.thing, counts)

    def test_unlike_gates_go_ahead_of_too_many(self):
        for call in self.calls():
            for gate in (Gate.wide("a"), Gate.wide("ac"), Gate.wide("abc")):
                for teller in (EXAMPLE, Store("ab", (0, 0), (((0, 1000), (0, 1)),) * 2, (0, 0))):
                    error = caught(call, (teller,), (1,), gate=gate)
                    self.assertEqual((type(error), error.word), (Unlike, "gate"))

    def test_too_many_standings_go_ahead_of_too_many_spots(self):
        tellers = (ring_machine("a", 77), ring_machine("a", 13), counting_store(1000))
        calls = self.calls() + (lambda tellers, factors: worth(tellers, factors, ""),)
        for call in calls:
            error = caught(call, tellers, (0, 0, 0))
            self.assertEqual((type(error), error.word), (TooMany, "standing"))
        self.assertEqual(worth((counting_store(999),), (1,), "aaa"), 0)


class JudgeHeightsTests(unittest.TestCase):
    def test_told_heights_in_any_order(self):
        random = Random(53)
        judged = 0
        for _ in range(200):
            tellers, factors, counts, gate = draw_claim(random)
            verdict = claim(tellers, factors, counts=counts, gate=gate)
            if verdict:
                judged += 1
                heights = [[list(spot), height] for spot, height in verdict.heights]
                random.shuffle(heights)

                def judge(most, thing):
                    return judge_heights(tellers, factors, most, thing, counts=counts, gate=gate)
                self.assertIs(judge(verdict.most, heights), True)
                self.assertIs(judge(verdict.most + 3, tuple(heights)), True)
                self.assertIs(judge(verdict.most - 1, heights), False)
                raised = [(spot, height + 1) for spot, height in verdict.heights]
                self.assertIs(judge(verdict.most + 1, raised), True)
                self.assertIs(judge(verdict.most, raised), False)
                at = random.randrange(len(heights))
                # Told heights are the least ones, and every spot is needed.
                self.assertIs(judge(verdict.most, [*heights[:at], *heights[at + 1:]]), False)
                lowered = [(spot, height - (k == at)) for k, (spot, height) in enumerate(verdict.heights)]
                self.assertIs(judge(verdict.most, lowered), False)
                self.assertIs(judge(verdict.most, heights + [heights[at]]), False)
        self.assertGreater(judged, 50)

    def judge(self, most, heights):
        return judge_heights((EXAMPLE,), (1,), most, heights, counts=(-2, 0))

    def test_each_condition(self):
        right = (((0, 0), 1), ((1, 0), 0))
        self.assertIs(self.judge(1, right), True)
        self.assertIs(judge_heights(tellers=(EXAMPLE,), factors=(1,), most=1, heights=right, counts=(-2, 0)), True)
        self.assertIs(self.judge(0, right), False)
        self.assertIs(self.judge(1, (((0, 0), 0), ((1, 0), 0))), False)
        self.assertIs(self.judge(1, ()), False)
        self.assertIs(self.judge(1, (((1, 0), 0),)), False)
        self.assertIs(self.judge(1, (((0, 0), 1),)), False)
        self.assertIs(self.judge(1, right + (((1, 0), 0),)), False)
        self.assertIs(self.judge(5, (((0, 0), 0), ((1, 0), -1))), False)
        self.assertIs(self.judge(5, (((0, 0), 5), ((1, 0), 4))), True)
        # The heights may be too high, as long as none is too low beside the next one.
        self.assertIs(self.judge(9, (((0, 0), 9), ((1, 0), 8))), True)
        self.assertIs(self.judge(9, (((0, 0), 9), ((1, 0), 9))), False)
        self.assertIs(self.judge(9, (((0, 0), 9), ((1, 0), 6))), False)

    def test_wrong_forms(self):
        right = (((0, 0), 1), ((1, 0), 0))
        for most in NO_INTEGERS:
            self.assertIs(self.judge(most, right), False)
        for thing in (None, 1, True, "ab", {(0, 0): 1, (1, 0): 0}, right[0], (right,)):
            self.assertIs(self.judge(1, thing), False)
        wrong = [((1, 0),), ((1, 0), 0, 0), (0, (1, 0)), "10", None, 1, ((1, 0), True), ((1, 0), None), ((1, 0), 0.0)]
        wrong += [((True, 0), 0), ((1, False), 0), ((1,), 0), ((1, 0, 0), 0), ("10", 0), (10, 0), ((1, "0"), 0), ((2, 0), 0)]
        wrong += [((1, 1), 0), ((-1, 0), 0), ((1, -1), 0), ([1, 0], -1), (((1,), 0), 0)]
        for pair in wrong:
            self.assertIs(self.judge(1, (right[0], pair)), False)
            self.assertIs(self.judge(1, [*right, pair]), False)

    def test_spots_to_which_no_row_leads(self):
        gate = Gate("ab", ((0, None), (1, 0)))
        def judge(heights):
            return judge_heights((EXAMPLE,), (1,), 0, heights, gate=gate)
        right = (((0, 0), 0),)
        self.assertIs(judge(right), True)
        # The spot (1, 1) leads by a to (0, 1), with a gain of 1, and by b to (1, 0), which leads to (0, 0).
        self.assertIs(judge(right + (((1, 1), 9),)), False)
        more = (((1, 0), 1), ((0, 1), 2), ((1, 1), 3))
        self.assertIs(judge(right + more), True)
        self.assertIs(judge(right + more[:2]), True)
        self.assertIs(judge(right + more[1:]), False)
        self.assertIs(judge(more), False)
        self.assertIs(judge(right + (((1, 0), 1), ((0, 1), 2), ((1, 1), 2))), False)
        self.assertIs(judge(right + (((1, 2), 0),)), False)

    def test_nothing_is_changed(self):
        heights = [[[0, 0], 1], [[1, 0], 0]]
        self.assertIs(self.judge(1, heights), True)
        self.assertEqual(heights, [[[0, 0], 1], [[1, 0], 0]])


class JudgeRingTests(unittest.TestCase):
    def judge(self, stem, ring):
        return judge_ring((EXAMPLE,), (2,), stem, ring, counts=(-1, 0))

    def test_told_rings(self):
        random = Random(54)
        judged = 0
        for _ in range(200):
            tellers, factors, counts, gate = draw_claim(random)
            verdict = claim(tellers, factors, counts=counts, gate=gate)
            if not verdict:
                judged += 1
                for times in (1, 2, 5):
                    ring = verdict.ring * times
                    self.assertIs(judge_ring(tellers, factors, verdict.stem, ring, counts=counts, gate=gate), True)
                    stem = verdict.stem + ring
                    self.assertIs(judge_ring(tellers, factors, stem, ring, counts=counts, gate=gate), True)
                less = [-factor for factor in factors]
                fewer = None if counts is None else [-count for count in counts]
                self.assertIs(judge_ring(tellers, less, verdict.stem, verdict.ring, counts=fewer, gate=gate), False)
                self.assertIs(judge_ring(tellers, factors, verdict.stem, "", counts=counts, gate=gate), False)
        self.assertGreater(judged, 50)

    def test_against_the_words_of_the_document(self):
        random = Random(55)
        for _ in range(40):
            tellers, factors, counts, gate = draw_claim(random)
            plain = PlainClaim(tellers, factors, counts, gate)
            rows = rows_up_to(plain.asks, 3)
            for stem in rows[:12]:
                for ring in rows:
                    right = stem + ring in plain.gate and ring != ""
                    if right:
                        spot, _ = plain.walk(plain.first, stem)
                        back, gain = plain.walk(spot, ring)
                        right = back == spot and gain > 0
                    found = judge_ring(tellers, factors, stem, ring, counts=counts, gate=gate)
                    self.assertIs(found, right)

    def test_each_condition(self):
        self.assertIs(self.judge("", "ba"), True)
        self.assertIs(judge_ring(tellers=(EXAMPLE,), factors=(2,), stem="b", ring="ab", counts=(-1, 0)), True)
        self.assertIs(self.judge("", ""), False)
        self.assertIs(self.judge("", "b"), False)
        self.assertIs(self.judge("b", "b"), False)
        self.assertIs(self.judge("", "a"), False)
        self.assertIs(judge_ring((EXAMPLE,), (1,), "", "ba", gate=Gate("ab", ((None, 1), (0, None)))), True)
        self.assertIs(judge_ring((EXAMPLE,), (1,), "a", "ba", gate=Gate("ab", ((None, 1), (0, None)))), False)
        self.assertIs(judge_ring((EXAMPLE,), (1,), "", "bba", gate=Gate("ab", ((None, 1), (0, None)))), False)
        # The kind comes back, but the place does not.
        self.assertIs(judge_ring((EXAMPLE,), (1,), "", "ba", gate=Gate("ab", ((1, 1), (1, 2), (1, 2)))), False)
        self.assertIs(judge_ring((EXAMPLE,), (1,), "b", "ab", gate=Gate("ab", ((1, 1), (1, 1)))), True)

    def test_2000_and_2001_asks(self):
        self.assertIs(self.judge("b" * 2000, "ab" * 1000), True)
        self.assertIs(self.judge("b" * 2001, "ab"), False)
        self.assertIs(self.judge("b", "ab" * 1000 + "a"), False)
        self.assertIs(self.judge("b", "ab" * 1001), False)

    def test_wrong_forms(self):
        for thing in (None, 1, True, ("b", "a"), ["b", "a"], "c", "Ba", b"ba", {"b": 1}):
            self.assertIs(self.judge("", thing), False)
            self.assertIs(self.judge(thing, "ba"), False)


if __name__ == "__main__":
    unittest.main()
