import unittest
from random import Random

from afterwise.courses import best_course, best_courses, hindsight, judge_levels, levels, paid, work
from afterwise.errors import BadCourse, BadRow
from afterwise.stores import Store
from tests.helpers import NO_INTEGERS, all_courses, counting_store, example_store, plain_work, random_store, rows_up_to

NO_ROWS = ("c", "abc", "A", "a" * 2001, None, 0, True, ["a"], ("a", "b"), b"a")


class PayingTests(unittest.TestCase):
    def test_the_example(self):
        store = example_store()
        self.assertEqual(hindsight(store, "abba"), 2)
        self.assertEqual(hindsight(store=store, row=""), 0)
        self.assertEqual(best_course(store=store, row="abba"), (0, 0, 1, 1, 0))
        self.assertEqual(paid(store, "abba", (0, 0, 1, 1, 0)), 2)
        self.assertEqual(work(store=store, row="b"), (2, 1))

    def test_the_empty_row(self):
        store = Store("a", (4, -1, 2), (((0, 0, 0),) * 3,), (-3, 2, 5))
        self.assertEqual(hindsight(store, ""), 1)
        self.assertEqual(best_course(store, ""), (0,))
        self.assertEqual(best_courses(store, ""), 2)
        self.assertEqual(work(store, ""), (4, -1, 2))
        self.assertEqual(paid(store, "", [2]), 7)

    def test_short_rows_against_all_courses(self):
        random = Random(8)
        for _ in range(60):
            asks = random.choice(("a", "ab", "bdh"))
            store = random_store(random, asks, random.randint(1, 3), random.choice((2, 3, 30)))
            for row in rows_up_to(asks, 3):
                courses = all_courses(store, row)
                least = min(courses.values())
                best = [course for course, amount in courses.items() if amount == least]
                self.assertEqual(hindsight(store, row), least)
                self.assertEqual(best_course(store, row), min(best))
                self.assertEqual(best_courses(store, row), len(best))
                self.assertEqual(work(store, row), plain_work(store, row))
                for course, amount in courses.items():
                    self.assertEqual(paid(store, row, course), amount)

    def test_one_state(self):
        store = Store("ab", (1,), (((2,),), ((-3,),)), (4,))
        row = "ab" * 500 + "a"
        self.assertEqual(hindsight(store, row), 5 + 501 * 2 - 500 * 3)
        self.assertEqual(best_course(store, row), (0,) * 1002)
        self.assertEqual(best_courses(store, row), 1)

    def test_prices_below_0_and_great_ones(self):
        great = 10 ** 60 - 1
        store = Store("a", (great, -great), (((-great, great), (0, great)),), (0, -great))
        self.assertEqual(hindsight(store, "a" * 3), -3 * great)
        self.assertEqual(best_course(store, "a" * 3), (1, 0, 0, 0))
        self.assertEqual(hindsight(store, "a" * 2000), -2000 * great)
        self.assertEqual(work(store, "aa"), (-2 * great, 0))

    def test_of_several_best_courses_the_least(self):
        store = Store("a", (0, 0, 0), (((1, 0, 0), (0, 1, 0), (0, 0, 1)),), (0, 0, 0))
        self.assertEqual(best_course(store, "aaaa"), (0, 1, 0, 1, 0))
        self.assertEqual(best_courses(store, "aaaa"), 3 * 2 ** 4)
        late = Store("a", (0, 0), (((0, 0), (0, 0)),), (1, 0))
        self.assertEqual(best_course(late, "aaa"), (0, 0, 0, 1))

    def test_long_rows(self):
        flat = Store("ab", (0, 0), (((0, 0), (0, 0)),) * 2, (0, 0))
        row = "ab" * 1000
        self.assertEqual(best_courses(flat, row), 2 ** 2001)
        self.assertEqual(best_course(flat, row), (0,) * 2001)
        random = Random(9)
        store = random_store(random, "abcd", 5, 4)
        row = "".join(random.choice("abcd") for _ in range(2000))
        course = best_course(store, row)
        self.assertEqual(paid(store, row, course), hindsight(store, row))
        numbers = plain_work(store, row)
        self.assertEqual(work(store, row), numbers)
        self.assertEqual(hindsight(store, row), min(n + end for n, end in zip(numbers, store.ends)))
        self.assertEqual(hindsight(counting_store(10 ** 9), "a" * 2000), 0)
        self.assertEqual(work(counting_store(10 ** 9), "a" * 2000), (0, 2000))

    def test_the_number_of_best_courses_of_long_rows(self):
        random = Random(10)
        tables = (((0, 0, 1), (1, 0, 0), (0, 1, 0)), ((1, 1, 0), (0, 0, 1), (0, 1, 1)))
        store = Store("ab", (0, 1, 0), tables, (0, 0, 1))
        row = "".join(random.choice("ab") for _ in range(2000))
        counts = [(number, 1) for number in store.begins]
        for ask in row:
            ways = []
            for column in zip(*store.costs[store.asks.index(ask)]):
                sums = [(number + price, count) for (number, count), price in zip(counts, column)]
                least = min(sums)[0]
                ways.append((least, sum(count for number, count in sums if number == least)))
            counts = ways
        sums = [(number + end, count) for (number, count), end in zip(counts, store.ends)]
        number = sum(count for amount, count in sums if amount == min(sums)[0])
        self.assertGreater(number, 10 ** 100)
        self.assertEqual(best_courses(store, row), number)

    def test_1000_states(self):
        prices = [[(7 * one + 3 * other) % 11 for other in range(1000)] for one in range(1000)]
        store = Store("a", [5] * 1000, [prices], [state % 13 for state in range(1000)])
        row = "a" * 2000
        self.assertEqual(work(store, "aaa"), plain_work(store, "aaa"))
        self.assertEqual(hindsight(store, row), 5)
        self.assertEqual(paid(store, row, best_course(store, row)), 5)

    def test_wrong_rows(self):
        store = example_store()
        calls = (
            hindsight, best_course, best_courses, work, levels,
            lambda store, row: paid(store, row, "x"), lambda store, row: judge_levels(store, row, None, None),
        )
        for row in NO_ROWS:
            for call in calls:
                with self.assertRaises(BadRow) as caught:
                    call(store, row)
                self.assertIs(caught.exception.thing, row)


class PaidTests(unittest.TestCase):
    def test_lists_and_tuples(self):
        store = example_store()
        course = [1, 0, 1]
        self.assertEqual(paid(store=store, row="ab", course=course), 1 + 1 + 1)
        self.assertEqual(paid(store, "ab", (1, 0, 1)), 3)
        self.assertEqual(course, [1, 0, 1])

    def test_wrong_courses(self):
        courses = [(), (0,), [0, 0], (0, 0, 0, 0), (0, 0, 2), (-1, 0, 0), "000", None, 0, {0: 0, 1: 1, 2: 2}]
        courses += [(0, thing, 0) for thing in NO_INTEGERS] + [[0, 0, thing] for thing in NO_INTEGERS]
        for course in courses:
            with self.assertRaises(BadCourse) as caught:
                paid(example_store(), "ab", course)
            self.assertIs(caught.exception.thing, course)


class LevelsTests(unittest.TestCase):
    def test_they_are_the_works_behind_the_beginnings(self):
        random = Random(11)
        store = random_store(random, "abc", 4, 9)
        row = "abcacbbca"
        told = levels(store=store, row=row)
        self.assertEqual(told, tuple(plain_work(store, row[:k]) for k in range(len(row) + 1)))
        self.assertEqual(levels(store, ""), (store.begins,))

    def test_they_are_right_for_what_is_paid_and_not_for_more(self):
        random = Random(12)
        for _ in range(40):
            store = random_store(random, "ab", random.randint(1, 4), 9)
            row = "".join(random.choice("ab") for _ in range(random.randint(0, 8)))
            amount, told = hindsight(store, row), levels(store, row)
            self.assertIs(judge_levels(store=store, row=row, levels=told, amount=amount), True)
            self.assertIs(judge_levels(store, row, told, amount - 1), True)
            self.assertIs(judge_levels(store, row, told, amount + 1), False)
            self.assertIs(judge_levels(store, row, [list(level) for level in told], amount), True)

    def test_numbers_that_are_raised_or_lowered(self):
        random = Random(13)
        for _ in range(30):
            store = random_store(random, "ab", 3, 4)
            row = "".join(random.choice("ab") for _ in range(4))
            amount, told = hindsight(store, row), levels(store, row)
            for at in range(len(told)):
                for state in range(3):
                    for change in (1, -1):
                        numbers = [list(level) for level in told]
                        numbers[at][state] += change
                        for most in (amount, amount - 1):
                            right = self.right(store, row, numbers, most)
                            self.assertIs(judge_levels(store, row, numbers, most), right)
                            if change == 1:
                                self.assertFalse(right)

    def right(self, store, row, told, amount):
        """Whether levels are right, word by word."""
        for number, begin in zip(told[0], store.begins):
            if number > begin:
                return False
        for at, ask in enumerate(row):
            for s in range(len(store)):
                for t in range(len(store)):
                    if told[at + 1][t] > told[at][s] + store.price(ask, s, t):
                        return False
        return all(number + end >= amount for number, end in zip(told[-1], store.ends))

    def test_other_right_levels(self):
        store = example_store()
        self.assertTrue(judge_levels(store, "ab", ((0, 0), (0, 1), (1, 1)), 1))
        self.assertTrue(judge_levels(store, "ab", ((-5, 1), (-5, -4), (-4, -4)), -4))
        self.assertFalse(judge_levels(store, "ab", ((0, 2), (0, 1), (1, 1)), 1))

    def test_wrong_forms(self):
        store = example_store()
        good = ((0, 1), (0, 2), (2, 1))
        self.assertTrue(judge_levels(store, "ab", good, 1))
        wrong = [None, 0, "abc", (), good[:2], good + ((9, 9),), {0: 0}, ((0, 1), (0, 2), (2,)), ((0, 1), (0,), (2, 1))]
        wrong += [((0, 1, 0),) + good[1:], ((0, 1), None, (2, 1)), ((0, 1), "02", (2, 1)), (0, 0, 0)]
        for thing in NO_INTEGERS:
            wrong += [((0, thing),) + good[1:], good[:2] + ((2, thing),), ((0, 1), [thing, 2], (2, 1))]
        for told in wrong:
            self.assertIs(judge_levels(store, "ab", told, 1), False, told)
        for amount in NO_INTEGERS:
            self.assertIs(judge_levels(store, "ab", good, amount), False)

    def test_long_rows(self):
        store = example_store()
        row = "ab" * 1000
        told = levels(store, row)
        self.assertEqual(len(told), 2001)
        self.assertTrue(judge_levels(store, row, told, 1999))
        self.assertFalse(judge_levels(store, row, told, 2000))

    def test_the_levels_that_are_passed_stay_as_they_are(self):
        told = [[0, 1], [0, 2], [2, 1]]
        judge_levels(example_store(), "ab", told, 1)
        self.assertEqual(told, [[0, 1], [0, 2], [2, 1]])


if __name__ == "__main__":
    unittest.main()
