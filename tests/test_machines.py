import unittest
from random import Random

from afterwise.errors import BadAsks, BadKind, BadMachine, BadRow, TooMany
from afterwise.machines import Machine, least_machine, parting_row
from afterwise.stores import Store
from tests.helpers import (
    NO_INTEGERS, chain_machine, counting_store, example_machine, example_store, gain, least_paid, random_machine,
    random_store, rows_up_to,
)

STEPS = (((0, 0), (1, 1)), ((0, 1), (1, 0)))


class MakingTests(unittest.TestCase):
    def wrong(self, number, asks, first, steps):
        with self.assertRaises(BadMachine) as caught:
            Machine(asks, first, steps)
        self.assertEqual(caught.exception.number, number)

    def test_attributes(self):
        machine = Machine(asks="ab", first=-7, steps=STEPS)
        self.assertEqual((machine.asks, machine.first, machine.steps), ("ab", -7, STEPS))
        self.assertEqual(machine.rows, ("", "b"))
        self.assertEqual(len(machine), 2)
        self.assertEqual(list(machine), list(STEPS))

    def test_lists_are_kept_as_tuples(self):
        steps = [[[0, 0], (1, 1)], ([0, 1], [1, 0])]
        machine = Machine("ab", 0, steps)
        steps[0][0][0] = 1
        steps[0].clear()
        steps.append(None)
        self.assertEqual(machine.steps, STEPS)
        self.assertIsInstance(machine.steps[0][0], tuple)
        self.assertEqual(machine, example_machine())

    def test_rows_with_kinds_to_which_no_row_leads(self):
        machine = Machine("ab", 0, (((3, 0), (0, 0)), ((1, 0), (2, 0)), ((2, 0), (2, 0)), ((3, 0), (4, 0)), ((0, 0),) * 2))
        self.assertEqual(machine.rows, ("", None, None, "a", "ab"))

    def test_rows_are_the_least_ones(self):
        random = Random(3)
        for _ in range(50):
            machine = random_machine(random, "abc", random.randint(1, 5), 2)
            least = {}
            for row in rows_up_to("abc", 5):
                least.setdefault(machine.kind_of(row), row)
            self.assertEqual(machine.rows, tuple(least.get(kind) for kind in range(len(machine))))

    def test_wrong_asks_go_first(self):
        for asks in ("", "ba", ["a"], None):
            with self.assertRaises(BadAsks) as caught:
                Machine(asks, None, None)
            self.assertIs(caught.exception.thing, asks)

    def test_wrong_first_number_or_steps(self):
        for first in NO_INTEGERS:
            self.wrong(-1, "ab", first, STEPS)
            self.wrong(-1, "ab", first, (None,))
        for steps in ((), [], None, 0, "ab", {0: STEPS[0]}, [((0, 0),)] * 1001):
            self.wrong(-1, "a", 0, steps)

    def test_wrong_items(self):
        pair = (0, 0)
        items = [None, 0, "ab", (), (pair,), (pair, pair, pair), {0: pair, 1: pair}]
        pairs = [None, 0, "00", (), (0,), (0, 0, 0), (2, 0), (-1, 0), {0: 0, 1: 0}]
        pairs += [(thing, 0) for thing in NO_INTEGERS] + [(0, thing) for thing in NO_INTEGERS]
        items += [(pair, wrong) for wrong in pairs] + [[wrong, pair] for wrong in pairs]
        for item in items:
            self.wrong(0, "ab", 0, (item, (pair, pair)))
            self.wrong(1, "ab", 0, [(pair, pair), item])
            self.wrong(0, "ab", 0, (item, None))
            self.wrong(-1, "ab", True, (item, None))

    def test_1000_and_1001_kinds(self):
        machine = Machine("a", 0, [((min(k + 1, 999), k),) for k in range(1000)])
        self.assertEqual((len(machine), machine.rows[999]), (1000, "a" * 999))
        self.wrong(-1, "a", 0, [((0, 0),)] * 1001)
        self.wrong(999, "a", 0, [((0, 0),)] * 999 + [((1000, 0),)])


class TellingTests(unittest.TestCase):
    def test_what_is_told(self):
        machine = Machine("ab", 10, STEPS)
        self.assertEqual([machine(row) for row in ("", "a", "b", "abba")], [10, 10, 11, 12])
        self.assertEqual(machine(row="ab"), 11)
        self.assertEqual([machine.kind_of(row) for row in ("", "a", "b", "abba")], [0, 0, 1, 0])
        self.assertEqual(machine.kind_of(row="ab"), 1)
        self.assertEqual([machine.sum_from(1, row) for row in ("", "a", "b", "abba")], [0, 1, 0, 3])
        self.assertEqual(machine.sum_from(kind=0, row="ab"), 1)

    def test_long_rows(self):
        machine = example_machine()
        self.assertEqual(machine("ab" * 1000), 1999)
        self.assertEqual(machine.sum_from(1, "ab" * 1000), 2000)
        self.assertEqual(machine.kind_of("ab" * 1000), 1)

    def test_wrong_rows(self):
        machine = example_machine()
        for row in ("c", "a" * 2001, None, 0, True, ["a"], ("a",)):
            for call in (machine, machine.kind_of, lambda row: machine.sum_from(0, row)):
                with self.assertRaises(BadRow) as caught:
                    call(row)
                self.assertIs(caught.exception.thing, row)

    def test_wrong_kinds_go_ahead_of_rows(self):
        for kind in (2, -1, *NO_INTEGERS):
            for row in ("a", "c"):
                with self.assertRaises(BadKind) as caught:
                    example_machine().sum_from(kind, row)
                self.assertIs(caught.exception.thing, kind)


class EqualityTests(unittest.TestCase):
    def test_like_and_unlike_machines(self):
        machine = example_machine()
        self.assertTrue(machine == Machine("ab", 0, [list(item) for item in STEPS]))
        for other in (Machine("ac", 0, STEPS), Machine("ab", 1, STEPS), Machine("ab", 0, STEPS[::-1])):
            self.assertFalse(machine == other)
            self.assertTrue(machine != other)

    def test_things_of_another_kind(self):
        for thing in (None, STEPS, 0, example_store()):
            self.assertFalse(example_machine() == thing)
            self.assertTrue(example_machine() != thing)


class LeastTests(unittest.TestCase):
    def check_least(self, machine):
        """All that a least machine must be, by its kinds' rows and all rows that could part them."""
        self.assertEqual(sorted(machine.rows, key=lambda row: (len(row), row)), list(machine.rows))
        signs = {tuple(machine.sum_from(kind, row) for row in rows_up_to(machine.asks, 5)) for kind in range(len(machine))}
        self.assertEqual(len(signs), len(machine))
        self.assertEqual(machine.least(), machine)

    def test_kinds_that_are_alike(self):
        machine = Machine("ab", 3, (((1, 0), (2, 1)), ((0, 0), (2, 1)), ((0, 1), (3, 0)), ((1, 1), (2, 0))))
        self.assertEqual(machine.least(), Machine("ab", 3, STEPS))

    def test_kinds_to_which_no_row_leads(self):
        machine = Machine("ab", 0, (((0, 0), (3, 1)), ((1, 5), (0, 5)), ((2, 0), (3, 1)), ((0, 1), (3, 0))))
        self.assertEqual(machine.least(), example_machine())
        alone = Machine("a", 2, (((0, 1),), ((0, 2),)))
        self.assertEqual(alone.least(), Machine("a", 2, (((0, 1),),)))

    def test_the_numbers_are_in_the_order_of_the_rows(self):
        machine = Machine("ab", 0, (((3, 0), (1, 0)), ((1, 1), (1, 2)), ((2, 2), (2, 1)), ((3, 5), (2, 0))))
        self.assertEqual(machine.rows, ("", "b", "ab", "a"))
        steps = (((1, 0), (2, 0)), ((1, 5), (3, 0)), ((2, 1), (2, 2)), ((3, 2), (3, 1)))
        self.assertEqual(machine.least(), Machine("ab", 0, steps))
        self.assertEqual(machine.least().rows, ("", "a", "b", "ab"))

    def test_kinds_that_only_a_long_row_parts(self):
        kinds = 1000
        machine = chain_machine(kinds)
        self.assertEqual(machine.least(), machine)
        self.assertEqual(parting_row(machine, 0, 999), "a" * 999)
        self.assertEqual(parting_row(machine, 0, 1), "a" * 998)
        # The same without the one step that adds something: all kinds are alike.
        flat = Machine("ab", 0, [[(then, 0) for then, _ in item] for item in machine])
        self.assertEqual(flat.least(), Machine("ab", 0, (((0, 0), (0, 0)),)))

    def test_against_all_short_rows(self):
        random = Random(4)
        for _ in range(200):
            asks = random.choice(("a", "ab", "ch"))
            machine = random_machine(random, asks, random.randint(1, 5), 1)
            before = (machine.asks, machine.first, machine.steps, machine.rows)
            least = machine.least()
            self.assertEqual((machine.asks, machine.first, machine.steps, machine.rows), before)
            self.check_least(least)
            self.assertEqual(least_machine(machine), least)
            for row in rows_up_to(asks, 5):
                self.assertEqual(least(row), machine(row))

    def test_machines_that_tell_the_same_have_one_least_machine(self):
        random = Random(5)
        for _ in range(100):
            machine = random_machine(random, "ab", 4, 1)
            # Each kind stands twice, and the steps go to the one or the other of both.
            twice = [[(2 * then + random.randrange(2), add) for then, add in machine.steps[k // 2]] for k in range(8)]
            self.assertEqual(Machine("ab", machine.first, twice).least(), machine.least())

    def test_of_stores(self):
        self.assertEqual(least_machine(teller=example_store()), example_machine())
        random = Random(6)
        for _ in range(60):
            asks = random.choice(("a", "ab", "abc"))
            store = random_store(random, asks, random.randint(1, 3), 4)
            parts = (store.asks, store.begins, store.costs, store.ends)
            least = least_machine(store)
            self.assertEqual((store.asks, store.begins, store.costs, store.ends), parts)
            self.check_least(least)
            for row in rows_up_to(asks, 4):
                self.assertEqual(least(row), least_paid(store, row))

    def test_ends_count(self):
        store = Store("a", (0, 3), (((0, 9), (9, -1)),), (10, 4))
        least = least_machine(store)
        self.assertEqual([least("a" * k) for k in range(12)], [7 - k for k in range(12)])
        self.assertEqual(len(least), 1)

    def test_a_store_with_1000_standings(self):
        store = counting_store(999)
        self.assertEqual(least_machine(store), Machine("a", 0, (((0, 0),),)))
        shown = Store("a", (0, 0), store.costs, (999, 0))
        self.assertEqual(len(least_machine(shown)), 1000)
        self.assertEqual(parting_row(shown, 0, 1), "a" * 999)


class PartingTests(unittest.TestCase):
    def test_a_kind_and_itself(self):
        for kind in (0, 1):
            self.assertIsNone(parting_row(example_machine(), kind, kind))

    def test_the_example(self):
        for teller in (example_machine(), example_store()):
            self.assertEqual(parting_row(teller, 0, 1), "a")
            self.assertEqual(parting_row(teller=teller, one=1, other=0), "a")

    def test_the_kinds_are_those_of_the_least_machine(self):
        machine = Machine("ab", 3, (((1, 0), (2, 1)), ((0, 0), (2, 1)), ((0, 1), (3, 0)), ((1, 1), (2, 0))))
        self.assertEqual(parting_row(machine, 0, 1), "a")
        with self.assertRaises(BadKind) as caught:
            parting_row(machine, 0, 2)
        self.assertEqual(caught.exception.thing, 2)

    def test_against_all_short_rows(self):
        random = Random(7)
        for _ in range(150):
            machine = random_machine(random, random.choice(("a", "ab", "abc")), random.randint(1, 5), 1)
            least = machine.least()
            for one in range(len(least)):
                for other in range(len(least)):
                    rows = [row for row in rows_up_to(machine.asks, 5) if gain(least, one, row)[1] != gain(least, other, row)[1]]
                    self.assertEqual(parting_row(machine, one, other), rows[0] if rows else None)

    def test_wrong_kinds(self):
        for kind in (2, -1, *NO_INTEGERS):
            for kinds in ((kind, 0), (kind, "x"), (1, kind)):
                for teller in (example_machine(), example_store()):
                    with self.assertRaises(BadKind) as caught:
                        parting_row(teller, *kinds)
                    self.assertIs(caught.exception.thing, kind)

    def test_too_many_standings(self):
        with self.assertRaises(TooMany) as caught:
            parting_row(counting_store(1000), 0, 0)
        self.assertEqual(caught.exception.word, "standing")


if __name__ == "__main__":
    unittest.main()
