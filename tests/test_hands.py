import unittest
from random import Random

from afterwise.claims import claim
from afterwise.courses import paid
from afterwise.errors import BadAsks, BadHand, BadRow, BadState, TooMany, Unlike
from afterwise.hands import Hand
from afterwise.late import best_hand
from afterwise.machines import Machine, least_machine
from afterwise.stores import Store
from tests.helpers import caught, counting_store, example_store, random_store, rows_up_to

EXAMPLE = example_store()
# It changes to the state of each ask, as one does in hindsight.
FOLLOWS = Hand("ab", (0, 1), ((0, 1), (0, 1)))


def random_hand(random, asks, states, places):
    moves = [[random.randrange(places) for _ in asks] for _ in range(places)]
    return Hand(asks, [random.randrange(states) for _ in range(places)], moves)


def table_hand(store, told):
    """The hand of sight 0 that a table tells."""
    numbers = {moment: number for number, (moment, _, _) in enumerate(told.table)}
    first = numbers[0, told.begin, "", 0]
    order = [first] + [number for number in numbers.values() if number != first]
    places = {number: place for place, number in enumerate(order)}
    machine = least_machine(store)
    moves = []
    for number in order:
        (kind, _, _, _), _, choices = told.table[number]
        item = [
            places[numbers[then, choice, "", 0]] for (then, _), choice in zip(machine.steps[kind], choices)
        ]
        moves.append(item)
    return Hand(store.asks, [told.table[number][0][1] for number in order], moves)


class HandTests(unittest.TestCase):
    def test_attributes(self):
        hand = Hand(asks="ab", states=(0, 3), moves=((0, 1), (1, 1)))
        self.assertEqual((hand.asks, hand.states, hand.moves, len(hand)), ("ab", (0, 3), ((0, 1), (1, 1)), 2))

    def test_lists_are_kept_as_tuples(self):
        states, moves = [0, 3], [[0, 1], [1, 1]]
        hand = Hand("ab", states, moves)
        states[0] = 9
        moves[0][1] = 0
        moves.pop()
        self.assertEqual((hand.states, hand.moves), ((0, 3), ((0, 1), (1, 1))))
        self.assertIsInstance(hand.moves[0], tuple)
        self.assertEqual(hand, Hand("ab", (0, 3), ((0, 1), (1, 1))))

    def test_equal_hands(self):
        self.assertEqual(FOLLOWS, Hand("ab", [0, 1], [(0, 1), [0, 1]]))
        for other in (
            Hand("ac", (0, 1), ((0, 1), (0, 1))), Hand("ab", (0, 2), ((0, 1), (0, 1))), Hand("ab", (0, 1), ((0, 1), (0, 0))),
            Hand("ab", (0,), ((0, 0),)), None, ("ab", (0, 1), ((0, 1), (0, 1))), EXAMPLE,
        ):
            self.assertNotEqual(FOLLOWS, other)
            self.assertIs(FOLLOWS == other, False)

    def test_wrong_asks_go_first(self):
        for asks in ("", "ba", "aa", "i", "abcde", None, 1, ("a",), ["a", "b"]):
            error = caught(Hand, asks, None, None)
            self.assertIsInstance(error, BadAsks)
            self.assertIs(error.thing, asks)

    def test_wrong_as_a_whole(self):
        right = ((0, 1), (0, 1))
        for states, moves in (
            (None, right), ("01", right), ({0: 0, 1: 1}, right), (2, right), ((0, 1), None), ((0, 1), "01"), ((0, 1), {0: 1, 1: 0}),
            ((0,), right), ((0, 1, 1), right), ((0, 1), right[:1]), ((), ()), ((0,) * 201, ((0, 0),) * 201),
            # What is wrong at a place comes behind.
            ((None, 1), right + right), (("0",), right), ((0,) * 201, ((9, 9),) * 201), ((True,) * 2, [None]),
        ):
            error = caught(Hand, "ab", states, moves)
            self.assertEqual((type(error), error.number), (BadHand, -1))
        self.assertEqual(len(Hand("ab", (0,) * 200, ((199, 0),) * 200)), 200)

    def test_wrong_places(self):
        for state in (-1, None, True, False, "0", 1.0, (0,)):
            error = caught(Hand, "ab", (0, state, 0), ((0, 1),) * 3)
            self.assertEqual((type(error), error.number), (BadHand, 1))
        for item in (None, 1, "01", (), (0,), (0, 1, 0), {0: 0, 1: 1}, (0, 3), (-1, 0), (0, True), (False, 0), (0, None), (0, "1"), ((0,), 1)):
            for later in ((0, 1), None):
                error = caught(Hand, "ab", (0, 1, 0), ((0, 2), item, later))
                self.assertEqual((type(error), error.number), (BadHand, 1))
            error = caught(Hand, "ab", (0, 1, -1), ((0, 2), (1, 1), item))
            self.assertEqual((type(error), error.number), (BadHand, 2))
            error = caught(Hand, "ab", (None, 1, 0), [item, item, item])
            self.assertEqual((type(error), error.number), (BadHand, 0))

    def test_courses(self):
        self.assertEqual(FOLLOWS.course("abba"), (0, 0, 1, 1, 0))
        self.assertEqual(FOLLOWS.course(row=""), (0,))
        hand = Hand("ab", (5, 5, 7), ((1, 2), (2, 0), (2, 2)))
        self.assertEqual(hand.course("aab"), (5, 5, 7, 7))
        self.assertEqual(len(hand.course("ab" * 1000)), 2001)
        for row in (None, "c", "a" * 2001, ("a",), 1, True, ["a"]):
            error = caught(FOLLOWS.course, row)
            self.assertIsInstance(error, BadRow)
            self.assertIs(error.thing, row)


class PaysTests(unittest.TestCase):
    def test_the_example(self):
        machine = FOLLOWS.pays(store=EXAMPLE)
        self.assertEqual(machine, Machine("ab", 0, (((0, 0), (1, 1)), ((0, 1), (1, 0)))))

    def test_against_courses(self):
        random = Random(190)
        for _ in range(150):
            asks = random.choice(("a", "ab", "abc"))
            store = random_store(random, asks, random.randint(1, 4), 9)
            hand = random_hand(random, asks, len(store), random.randint(1, 5))
            machine = hand.pays(store)
            self.assertIsInstance(machine, Machine)
            for row in rows_up_to(asks, 4):
                self.assertEqual(machine(row), paid(store, row, hand.course(row)))
            # Also at places to which no row leads.
            self.assertEqual(machine.first, store.begins[hand.states[0]] + store.ends[hand.states[0]])
            for place, item in enumerate(machine.steps):
                for number, ask in enumerate(asks):
                    then = hand.moves[place][number]
                    here, there = hand.states[place], hand.states[then]
                    add = store.price(ask, here, there) + store.ends[there] - store.ends[here]
                    self.assertEqual(item[number], (then, add))

    def test_errors(self):
        other = Store("ac", EXAMPLE.begins, EXAMPLE.costs, EXAMPLE.ends)
        hand = Hand("ab", (0, 1, 3, 2), ((0, 1), (0, 1), (3, 3), (2, 2)))
        error = caught(hand.pays, other)
        self.assertEqual((type(error), error.word), (Unlike, "asks"))
        error = caught(hand.pays, EXAMPLE)
        self.assertEqual((type(error), error.thing), (BadState, 3))
        # The store is no teller here, so it may have too many standings.
        self.assertEqual(Hand("a", (1,), ((0,),)).pays(counting_store(10 ** 6))("aaa"), 3)

    def test_what_a_hand_pays_above_hindsight(self):
        random = Random(191)
        bounded = 0
        for _ in range(120):
            asks = random.choice(("a", "ab"))
            store = random_store(random, asks, random.randint(1, 3), 4)
            told = best_hand(store, 0)
            try:
                for _ in range(5):
                    hand = random_hand(random, asks, len(store), random.randint(1, 4))
                    above = claim((hand.pays(store), store), (1, -1))
                    if above.holds:
                        self.assertTrue(told.holds)
                        self.assertGreaterEqual(above.most, told.rest)
                if told.holds:
                    bounded += 1
                    hand = table_hand(store, told)
                    above = claim((hand.pays(store), store), (1, -1))
                    self.assertEqual((above.holds, above.most), (True, told.rest))
            except TooMany:
                continue
        self.assertGreater(bounded, 50)

    def test_200_places(self):
        hand = Hand("ab", [k % 2 for k in range(200)], [((k + 1) % 200, (k + 2) % 200) for k in range(200)])
        machine = hand.pays(EXAMPLE)
        self.assertEqual(len(machine), 200)
        row = "ab" * 1000
        self.assertEqual(machine(row), paid(EXAMPLE, row, hand.course(row)))


if __name__ == "__main__":
    unittest.main()
