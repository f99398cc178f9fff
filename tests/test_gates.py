import unittest
from itertools import product
from random import Random

from afterwise.errors import BadAsks, BadGate, BadRow
from afterwise.gates import Gate
from tests.helpers import caught, random_gate, rows_up_to

TURNS = Gate("ab", ((1, 0), (None, 0)))


def plain_place(gate, row):
    """The place to which a row leads, ask by ask."""
    place = 0
    for ask in row:
        place = None if place is None else gate.steps[place][gate.asks.index(ask)]
    return place


class MakingTests(unittest.TestCase):
    def test_attributes(self):
        gate = Gate(asks="ab", steps=((1, 0), (None, 0)))
        self.assertEqual((gate.asks, gate.steps, len(gate)), ("ab", ((1, 0), (None, 0)), 2))

    def test_lists_are_kept_as_tuples(self):
        steps = [[1, 0], (None, 0)]
        gate = Gate("ab", steps)
        steps[0][0] = 0
        steps.append((0, 0))
        self.assertEqual(gate.steps, ((1, 0), (None, 0)))
        self.assertIsInstance(gate.steps[0], tuple)
        self.assertEqual(gate, TURNS)

    def test_wrong_asks_go_first(self):
        for asks in ("", "ba", "aa", "abcde", "i", "A", None, 3, ("a",), ["a", "b"], True):
            for steps in (((0,),), None, ()):
                error = caught(Gate, asks, steps)
                self.assertIsInstance(error, BadAsks)
                self.assertIs(error.thing, asks)
            error = caught(Gate.wide, asks)
            self.assertIsInstance(error, BadAsks)
            self.assertIs(error.thing, asks)

    def test_steps_as_a_whole(self):
        wrong = [None, (), [], "ab", 1, True, {0: (0, 0)}, ((0, 0),) * 51, [(9, 9)] * 51]
        for steps in wrong:
            error = caught(Gate, "ab", steps)
            self.assertIsInstance(error, BadGate)
            self.assertEqual(error.number, -1)

    def test_wrong_items(self):
        wrong = [(2, 0), (0, -1), (0, True), (False, 0), (0, "0"), (0,), (0, 0, 0), (), "00", None, 0, (0, 1.0)]
        wrong += [(0, (0,)), [0, "a"], {0: 0, 1: 0}]
        for item in wrong:
            for steps, number in (((item, (0, 0)), 0), ([(None, 1), item], 1), ((item, item), 0)):
                error = caught(Gate, "ab", steps)
                self.assertIsInstance(error, BadGate)
                self.assertEqual(error.number, number)
        error = caught(Gate, "ab", ((0, 0), (0, 3), (0, "x")))
        self.assertEqual(error.number, 1)

    def test_50_and_51_places(self):
        gate = Gate("a", [((k + 1) % 50,) for k in range(50)])
        self.assertEqual((len(gate), gate.place_of("a" * 149)), (50, 49))
        self.assertEqual(caught(Gate, "a", [((k + 1) % 51,) for k in range(51)]).number, -1)

    def test_the_wide_gate(self):
        for asks in ("a", "bd", "abcd"):
            gate = Gate.wide(asks=asks)
            self.assertIsInstance(gate, Gate)
            self.assertEqual((gate.asks, gate.steps, len(gate)), (asks, ((0,) * len(asks),), 1))
            for row in rows_up_to(asks, 3):
                self.assertEqual(gate.place_of(row), 0)
                self.assertIn(row, gate)


class PassingTests(unittest.TestCase):
    def test_rows_that_pass_and_rows_that_do_not(self):
        passing = {"": 0, "a": 1, "ab": 0, "b": 0, "bba": 1, "abab": 0}
        for row, place in passing.items():
            self.assertEqual(TURNS.place_of(row=row), place)
            self.assertIs(row in TURNS, True)
        for row in ("aa", "baa", "aab", "aaaa", "abaab"):
            self.assertIsNone(TURNS.place_of(row))
            self.assertIs(row in TURNS, False)

    def test_against_ask_by_ask(self):
        random = Random(50)
        for _ in range(60):
            gate = random_gate(random, random.choice(("a", "bc", "acd")), random.randint(1, 5), 0.3)
            for row in rows_up_to(gate.asks, 4):
                place = plain_place(gate, row)
                self.assertEqual(gate.place_of(row), place)
                self.assertEqual(row in gate, place is not None)
                if place is not None:
                    # Every beginning passes, and it goes on exactly with the asks that can come at the place.
                    self.assertIn(row[:-1], gate)
                    for number, ask in enumerate(gate.asks):
                        self.assertEqual(row + ask in gate, gate.steps[place][number] is not None)

    def test_no_rows(self):
        gate = Gate.wide("ab")
        wrong = [None, 1, True, ("a",), ["a", "b"], "c", "abc", "A", b"ab", "a" * 2001, "a b", {"a": 1}]
        for thing in wrong:
            self.assertIs(thing in gate, False)
            error = caught(gate.place_of, thing)
            self.assertIsInstance(error, BadRow)
            self.assertIs(error.thing, thing)

    def test_rows_of_2000_asks(self):
        self.assertEqual(Gate.wide("ab").place_of("ab" * 1000), 0)
        self.assertIn("ab" * 1000, TURNS)
        self.assertNotIn("ab" * 999 + "aa", TURNS)


class EqualityTests(unittest.TestCase):
    def test_equality(self):
        every = [Gate("a", steps) for many in (1, 2) for steps in product([(None,), (0,)], repeat=many)]
        every += [Gate("b", ((0,),)), Gate("ab", ((0, 0),))]
        for i, one in enumerate(every):
            for j, other in enumerate(every):
                self.assertIs(one == other, i == j)
                self.assertIs(one != other, i != j)
        self.assertEqual(Gate("ab", [[1, 0], [None, 0]]), TURNS)

    def test_things_of_another_kind(self):
        for thing in (None, "ab", ((1, 0), (None, 0)), 0, ("ab", ((1, 0), (None, 0)))):
            self.assertFalse(TURNS == thing)


if __name__ == "__main__":
    unittest.main()
