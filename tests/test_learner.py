import unittest
from random import Random

from afterwise.errors import BadAmount, BadAsks, BadMany, NothingWanted
from afterwise.learner import Learner
from afterwise.machines import Machine, least_machine
from tests.helpers import NO_INTEGERS, caught, example_machine, example_store, plain_tells, random_machine, random_store
from tests.test_claims import ring_machine

EXAMPLE = example_store()


def most_rows(asks, many):
    """The number of rows that the document lets there be."""
    short = sum(len(asks) ** length for length in range(many + 1))
    return 2 * (len(asks) + 1) * short * many ** 3


class LearnerTests(unittest.TestCase):
    def learn(self, learner, amount_of):
        """Tells a learner of rows until its end; it looks at all that it shows on the way."""
        rows = []
        while learner.wanted is not None:
            row = learner.wanted
            self.assertIsInstance(row, str)
            self.assertLessEqual(set(row), set(learner.asks))
            self.assertEqual((learner.wanted, learner.learnt), (row, None))
            self.assertIsNone(learner.tell(amount_of(row)))
            rows.append(row)
        self.assertEqual(learner.asked, tuple(rows))
        self.assertEqual(len(set(rows)), len(rows))
        self.assertLessEqual(len(rows), most_rows(learner.asks, learner.many))
        return rows

    def check(self, teller, many):
        learner = Learner(teller.asks, many)
        rows = self.learn(learner, lambda row: plain_tells(teller, row))
        self.assertIsInstance(learner.learnt, Machine)
        self.assertEqual(learner.learnt, least_machine(teller))
        self.assertEqual((learner.wanted, learner.asks, learner.many), (None, teller.asks, many))
        return rows

    def test_the_example(self):
        for teller in (EXAMPLE, example_machine()):
            for many in (2, 3, 5):
                self.check(teller, many)
        learner = Learner(asks="ab", many=2)
        self.assertEqual((learner.asks, learner.many, learner.asked, learner.learnt), ("ab", 2, (), None))
        first = learner.wanted
        self.assertIsNone(learner.tell(amount=EXAMPLE and plain_tells(EXAMPLE, first)))
        self.assertEqual(learner.asked, (first,))
        self.assertNotEqual(learner.wanted, first)

    def test_machines_and_stores(self):
        random = Random(240)
        for _ in range(300):
            asks = random.choice(("a", "ab", "abc", "abcd"))
            many = random.randint(1, {1: 12, 2: 6, 3: 4, 4: 3}[len(asks)])
            if random.randrange(3):
                teller = random_machine(random, asks, random.randint(1, many), random.choice((0, 1, 2)))
            else:
                teller = random_store(random, asks, random.randint(1, 2), 3)
            kinds = len(least_machine(teller))
            if kinds <= many:
                self.check(teller, many)

    def test_kinds_that_stay_hidden_for_long(self):
        random = Random(241)
        for asks, many in (("a", 12), ("ab", 6), ("abc", 5), ("abcd", 4)):
            for _ in range(5):
                way = [random.randrange(len(asks)) for _ in range(many)]
                steps = []
                for kind, ask in enumerate(way):
                    item = [(0, 0)] * len(asks)
                    item[ask] = (kind + 1, 0) if kind + 1 < many else (0, 1)
                    steps.append(item)
                self.check(Machine(asks, random.randint(-9, 9), steps), many)

    def test_as_many_kinds_as_the_many(self):
        for kinds in (1, 2, 5, 12):
            self.check(ring_machine("a", kinds), kinds)
            self.check(ring_machine("ab", min(kinds, 7)), min(kinds, 7))
            self.check(ring_machine("abcd", min(kinds, 5)), min(kinds, 5))

    def test_great_amounts(self):
        great = 10 ** 60
        self.check(Machine("ab", -great, (((0, great), (1, -great)), ((1, 1), (0, great + 1)))), 3)

    def test_what_is_told_is_not_true(self):
        random = Random(242)
        for _ in range(150):
            asks = random.choice(("a", "ab", "abc", "abcd"))
            many = random.randint(1, {1: 12, 2: 5, 3: 3, 4: 3}[len(asks)])
            machine = random_machine(random, asks, random.randint(1, many + 2), 2)
            often, high = random.random(), random.choice((1, 100))
            learner = Learner(asks, many)
            self.learn(learner, lambda row: plain_tells(machine, row) + (
                random.randint(-high, high) if random.random() < often else 0))
            self.assertIsNone(learner.wanted)
        # A teller with too many kinds.
        for many in (1, 3, 11):
            self.learn(Learner("a", many), lambda row: plain_tells(ring_machine("a", 12), row))

    def test_behind_the_end(self):
        learner = Learner("ab", 2)
        self.learn(learner, lambda row: plain_tells(EXAMPLE, row))
        before = (learner.wanted, learner.asked, learner.learnt)
        self.assertIsInstance(caught(learner.tell, 0), NothingWanted)
        for amount in NO_INTEGERS:
            error = caught(learner.tell, amount)
            self.assertIsInstance(error, BadAmount)
            self.assertIs(error.thing, amount)
        self.assertEqual((learner.wanted, learner.asked, learner.learnt), before)

    def test_refused_amounts_change_nothing(self):
        learner, other = Learner("ab", 3), Learner("ab", 3)
        while learner.wanted is not None:
            for amount in NO_INTEGERS:
                error = caught(learner.tell, amount)
                self.assertIsInstance(error, BadAmount)
                self.assertIs(error.thing, amount)
            self.assertEqual((learner.wanted, learner.asked, learner.learnt), (other.wanted, other.asked, None))
            for each in (learner, other):
                each.tell(plain_tells(EXAMPLE, each.wanted))
        self.assertEqual(learner.learnt, other.learnt)

    def test_the_greatest_learner_begins_at_once(self):
        learner = Learner("abcd", 12)
        for _ in range(3000):
            learner.tell(0)
        self.assertEqual(len(set(learner.asked)), 3000)
        self.assertIsNone(learner.learnt)

    def test_wrong_arguments(self):
        for asks in ("", "ba", "aa", "i", "abcde", None, 1, True, ("a",), ["a"]):
            for many in (2, 0, None):
                error = caught(Learner, asks, many)
                self.assertIsInstance(error, BadAsks)
                self.assertIs(error.thing, asks)
        for many in (0, 13, -1, *NO_INTEGERS):
            error = caught(Learner, "ab", many)
            self.assertIsInstance(error, BadMany)
            self.assertIs(error.thing, many)


if __name__ == "__main__":
    unittest.main()
