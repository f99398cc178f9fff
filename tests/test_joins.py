import unittest
from random import Random

from afterwise.errors import BadAsks, BadBook, BadRow, TooMany, Unlike
from afterwise.joins import ahead, backwards, behind, put_for, summed
from afterwise.stores import Store
from tests.helpers import NO_INTEGERS, caught, example_store, plain_tells, plain_work, random_store, rows_up_to

EXAMPLE = example_store()


def random_stores(seed, many):
    """Pairs of stores over the same asks and a seeded source."""
    random = Random(seed)
    for _ in range(many):
        asks = random.choice(("a", "ab", "bcd"))
        yield random, *(random_store(random, asks, random.randint(1, 3), 5) for _ in range(2))


def even_store(states):
    """A store in which all prices are 1."""
    return Store("a", (1,) * states, (((1,) * states,) * states,), (1,) * states)


class SumTests(unittest.TestCase):
    def test_it_pays_what_both_pay(self):
        for _, one, other in random_stores(70, 40):
            both = summed(one=one, other=other)
            self.assertEqual(both, one + other)
            self.assertEqual(len(both), len(one) * len(other))
            for row in rows_up_to(one.asks, 3):
                self.assertEqual(plain_tells(both, row), plain_tells(one, row) + plain_tells(other, row))
            for ask in one.asks:
                for i in range(len(both)):
                    for j in range(len(both)):
                        (a, b), (c, d) = divmod(i, len(other)), divmod(j, len(other))
                        self.assertEqual(both.price(ask, i, j), one.price(ask, a, c) + other.price(ask, b, d))

    def test_begins_and_ends(self):
        one = Store("a", (1, 2), (((0, 0), (0, 0)),), (3, 4))
        other = Store("a", (10, 20, 30), (((0,) * 3,) * 3,), (40, 50, 60))
        both = summed(one, other)
        self.assertEqual(both.begins, (11, 21, 31, 12, 22, 32))
        self.assertEqual(both.ends, (43, 53, 63, 44, 54, 64))

    def test_errors(self):
        for join in (summed, lambda one, other: one + other):
            error = caught(join, EXAMPLE, even_store(1000))
            self.assertEqual((type(error), error.word), (Unlike, "asks"))
            error = caught(join, even_store(7), even_store(143))
            self.assertEqual((type(error), error.word), (TooMany, "state"))

    def test_1000_states(self):
        for join in (summed, lambda one, other: one + other):
            both = join(even_store(40), even_store(25))
            self.assertEqual(both, Store("a", (2,) * 1000, (((2,) * 1000,) * 1000,), (2,) * 1000))


class BackwardsTests(unittest.TestCase):
    def test_it_pays_for_rows_the_other_way_round(self):
        for _, store, _ in random_stores(71, 40):
            turned = backwards(store=store)
            self.assertEqual(turned, ~store)
            self.assertEqual((turned.begins, turned.ends), (store.ends, store.begins))
            for ask in store.asks:
                for one in range(len(store)):
                    for other in range(len(store)):
                        self.assertEqual(turned.price(ask, one, other), store.price(ask, other, one))
            for row in rows_up_to(store.asks, 3):
                self.assertEqual(plain_tells(turned, row), plain_tells(store, row[::-1]))
            self.assertEqual(backwards(turned), store)
            self.assertEqual(~~store, store)


class PutForTests(unittest.TestCase):
    def test_it_pays_for_the_rows_one_behind_the_other(self):
        for random, store, _ in random_stores(72, 40):
            asks = random.choice(("a", "gh", "cde", "abcd"))
            rows = ["".join(random.choice(store.asks) for _ in range(random.randint(1, 4))) for _ in asks]
            new = put_for(store=store, asks=asks, rows=rows)
            self.assertEqual((new.asks, new.begins, new.ends), (asks, store.begins, store.ends))
            for number, row in enumerate(rows):
                for state in range(len(store)):
                    begins = [0 if k == state else 10 ** 6 for k in range(len(store))]
                    paid = plain_work(Store(store.asks, begins, store.costs, store.ends), row)
                    self.assertEqual(new.costs[number][state], paid)
            for row in rows_up_to(asks, 2):
                whole = "".join(rows[asks.index(ask)] for ask in row)
                self.assertEqual(plain_tells(new, row), plain_tells(store, whole))

    def test_one_ask_each(self):
        self.assertEqual(put_for(EXAMPLE, "ab", ("a", "b")), EXAMPLE)
        self.assertEqual(put_for(EXAMPLE, "eh", ["b", "a"]), Store("eh", (0, 1), EXAMPLE.costs[::-1], (0, 0)))
        self.assertEqual(put_for(EXAMPLE, "c", ("ab",)).costs, (((2, 1), (3, 2)),))

    def test_rows_of_2000_asks(self):
        new = put_for(EXAMPLE, "cd", ("ab" * 1000, "b" * 2000))
        self.assertEqual(new.costs[0], ((2000, 1999), (2001, 2000)))
        self.assertEqual(new.costs[1], ((4, 1), (3, 0)))

    def test_many_states(self):
        random = Random(73)
        store = random_store(random, "ab", 150, 1000)
        row = "".join(random.choice("ab") for _ in range(2000))
        new = put_for(store, "a", (row,))
        for state in (0, 77):
            begins = [0 if k == state else 10 ** 9 for k in range(150)]
            self.assertEqual(new.costs[0][state], plain_work(Store("ab", begins, store.costs, store.ends), row))

    def test_1000_states_in_which_all_is_kept(self):
        table = [[0 if i == j else 10 ** 9 for j in range(1000)] for i in range(1000)]
        store = Store("a", range_of(1000), (table,), (0,) * 1000)
        self.assertEqual(put_for(store, "a", ("a" * 2000,)), store)

    def test_wrong_asks_go_first(self):
        for asks in ("", "ba", "abcde", None, 1, ("a",), "x"):
            error = caught(put_for, EXAMPLE, asks, "wrong")
            self.assertIsInstance(error, BadAsks)
            self.assertIs(error.thing, asks)

    def test_wrong_books(self):
        wrong = [None, 1, True, "ab", "a", (), ("a",), ("a", "b", "a"), ["a", ""], ("", "a"), ("a", "c"), ("A", "b")]
        wrong += [("a", None), ("a", 1), [["a"], "b"], ("a", ("b",)), ("a", "a" * 2001), {"a": "b", "b": "a"}, ("a", b"b")]
        wrong += [("a", thing) for thing in NO_INTEGERS if thing != "1"]
        for rows in wrong:
            error = caught(put_for, EXAMPLE, "cd", rows)
            self.assertIsInstance(error, BadBook)
            self.assertIs(error.thing, rows)

    def test_nothing_is_changed(self):
        rows = ["ab", "b"]
        put_for(EXAMPLE, "cd", rows)
        self.assertEqual(rows, ["ab", "b"])


def range_of(many):
    return tuple(range(many))


class BehindAndAheadTests(unittest.TestCase):
    def test_what_is_left_behind_a_row(self):
        for _, store, _ in random_stores(74, 40):
            for row in rows_up_to(store.asks, 2):
                left = behind(store=store, row=row)
                self.assertEqual(left.begins, tuple(plain_work(store, row)))
                self.assertEqual((left.asks, left.costs, left.ends), (store.asks, store.costs, store.ends))
                for then in rows_up_to(store.asks, 2):
                    self.assertEqual(plain_tells(left, then), plain_tells(store, row + then))

    def test_what_leads_up_to_a_row(self):
        for _, store, _ in random_stores(75, 40):
            for row in rows_up_to(store.asks, 2):
                led = ahead(store=store, row=row)
                self.assertEqual(led.ends, tuple(plain_work(backwards(store), row[::-1])))
                self.assertEqual((led.asks, led.begins, led.costs), (store.asks, store.begins, store.costs))
                for then in rows_up_to(store.asks, 2):
                    self.assertEqual(plain_tells(led, then), plain_tells(store, then + row))

    def test_the_empty_row(self):
        for _, store, _ in random_stores(76, 10):
            self.assertEqual(behind(store, ""), store)
            self.assertEqual(ahead(store, ""), store)

    def test_2000_asks(self):
        row = "ab" * 1000
        self.assertEqual(behind(EXAMPLE, row), Store("ab", (2000, 1999), EXAMPLE.costs, (0, 0)))
        self.assertEqual(ahead(EXAMPLE, row), Store("ab", (0, 1), EXAMPLE.costs, (1999, 2000)))

    def test_wrong_rows(self):
        for row in (None, "c", "a" * 2001, ("a",), 1, True, ["a"], b"a"):
            for call in (behind, ahead):
                error = caught(call, EXAMPLE, row)
                self.assertIsInstance(error, BadRow)
                self.assertIs(error.thing, row)


if __name__ == "__main__":
    unittest.main()
