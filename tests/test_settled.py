import unittest
from random import Random

from afterwise.errors import BadRow, TooMany
from afterwise.settled import possible_states, sure_states
from afterwise.stores import Store
from tests.helpers import all_courses, caught, counting_store, example_store, random_store, rows_up_to

EXAMPLE = example_store()


def best_states(store, row, later, then):
    """The states in which the best courses for three rows together are behind the first one."""
    paid = all_courses(store, row + later + then)
    least = min(paid.values())
    return {course[len(row)] for course, amount in paid.items() if amount == least}


class SettledTests(unittest.TestCase):
    def check(self, store, row, later, length):
        """Both answers against all short rows behind; the states that are possible and those that are sure."""
        possible, sure = possible_states(store, row, later=later), sure_states(store, row, later=later)
        for told in (possible, sure):
            self.assertIsInstance(told, tuple)
            self.assertEqual(told, tuple(sorted(set(told))))
        found = [best_states(store, row, later, then) for then in rows_up_to(store.asks, length)]
        self.assertEqual(set(possible), set.union(*found))
        self.assertEqual(set(sure), set.intersection(*found))
        return possible, sure

    def test_the_example(self):
        self.assertEqual(possible_states(store=EXAMPLE, row="a"), (0,))
        self.assertEqual(sure_states(store=EXAMPLE, row="a"), (0,))
        for row in rows_up_to("ab", 2):
            for later in rows_up_to("ab", 2):
                self.check(EXAMPLE, row, later, 3)

    def test_against_all_best_courses(self):
        random = Random(100)
        seen = {}
        for _ in range(150):
            store = random_store(random, random.choice(("a", "ab")), random.randint(1, 3), random.choice((2, 4)))
            rows = rows_up_to(store.asks, 2)
            row, later = random.choice(rows), random.choice(rows)
            possible, sure = self.check(store, row, later, 6 - len(row + later))
            kind = (len(possible) > 1, len(sure))
            seen[kind] = seen.get(kind, 0) + 1
        # States that none is sure of, and several sure ones, come up, too.
        self.assertGreater(min(seen[True, 0], seen[True, 1], seen[True, 2], seen[False, 1]), 3)

    def test_no_state_is_sure(self):
        # What the next ask is decides in which state to be.
        store = Store("ab", (0, 0), (((0, 9), (9, 5)), ((5, 9), (9, 0))), (0, 0))
        self.assertEqual((possible_states(store, ""), sure_states(store, "")), ((0, 1), ()))
        self.check(store, "", "a", 5)
        self.check(store, "", "", 5)

    def test_a_later_row_that_makes_more_states_sure(self):
        # The first ask settles it: to come over from the other state is as dear as to begin there.
        store = Store("ab", (0, 0), (((0, 1), (1, 1)), ((1, 1), (1, 0))), (0, 0))
        self.assertEqual((possible_states(store, ""), sure_states(store, "")), ((0, 1), ()))
        for later, state in (("a", 0), ("b", 1)):
            possible, sure = self.check(store, "", later, 5)
            self.assertEqual(sure, (state,))
            self.assertIn(state, possible)

    def test_one_state(self):
        store = Store("ab", (3,), (((4,),), ((-5,),)), (6,))
        for row in ("", "a", "abba"):
            for later in ("", "bb"):
                self.assertEqual(possible_states(store, row, later=later), (0,))
                self.assertEqual(sure_states(store, row, later=later), (0,))

    def test_2000_asks(self):
        self.assertEqual(possible_states(EXAMPLE, "ab" * 1000, later="a" * 2000), (0, 1))
        self.assertEqual(sure_states(EXAMPLE, "ab" * 1000, later="a" * 2000), (0, 1))
        self.assertEqual(sure_states(EXAMPLE, "ab" * 999 + "aa", later="ba" * 1000), (0,))

    def test_many_states(self):
        kept = [[0 if i == j else 10 ** 6 for j in range(200)] for i in range(200)]
        store = Store("a", (5,) * 200, (kept,), (0,) * 200)
        every = tuple(range(200))
        self.assertEqual(possible_states(store, "a" * 9, later="a" * 2000), every)
        self.assertEqual(sure_states(store, "a" * 9, later="a" * 2000), every)
        random = Random(101)
        store = random_store(random, "ab", 200, 40)
        possible, sure = possible_states(store, "ab", later="ba"), sure_states(store, "ab", later="ba")
        self.assertLessEqual(set(sure), set(possible))
        self.assertGreater(len(possible), 0)


class ErrorTests(unittest.TestCase):
    def test_the_order_of_errors(self):
        many = counting_store(1000)
        wrong = (None, "b", "a" * 2001, ("a",), 1, True, ["a"], b"a")
        for call in (possible_states, sure_states):
            for row in wrong:
                error = caught(call, many, row, later="c")
                self.assertIsInstance(error, BadRow)
                self.assertIs(error.thing, row)
                error = caught(call, many, "a", later=row)
                self.assertIsInstance(error, BadRow)
                self.assertIs(error.thing, row)
            error = caught(call, many, "")
            self.assertEqual((type(error), error.word), (TooMany, "standing"))
            self.assertEqual(call(counting_store(999), "a"), (0,))


if __name__ == "__main__":
    unittest.main()
