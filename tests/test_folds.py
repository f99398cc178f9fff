import unittest
from random import Random

from afterwise.errors import NotHindsight, TooMany, Unlike
from afterwise.folds import folds, judge_fold
from afterwise.great import great_store, is_hindsight
from afterwise.machines import Machine, least_machine
from afterwise.stores import Store
from afterwise.views import closure, views
from tests.helpers import (
    NO_INTEGERS, caught, chain_machine, counting_store, example_machine, example_store, plain_tells, random_store,
    rows_up_to, swing_machine,
)
from tests.test_distances import potential_machine

EXAMPLE = example_store()
ENDLESS = Machine("ab", 0, (((0, 1), (1, 0)), ((1, 0), (1, 2))))


def plain_price(machine, number, one, other):
    """The greatest store's price of an ask from a view to another, by the words of the document."""
    return max(add + other[then] - one[kind] for kind, (then, add) in enumerate(item[number] for item in machine))


def plain_fold(teller, store, fold):
    """Whether pairs of the right form are a fold, by the words of the document."""
    machine = least_machine(teller)
    if len(fold) != len(store) or any(min(view) != 0 or closure(teller, view) != tuple(view) for view, _ in fold):
        return False
    for state, (view, shift) in enumerate(fold):
        if store.begins[state] < machine.first + view[0] + shift or store.ends[state] + shift < 0:
            return False
        for number in range(len(store.asks)):
            for other, (other_view, other_shift) in enumerate(fold):
                price = plain_price(machine, number, view, other_view)
                if store.costs[number][state][other] + shift < price + other_shift:
                    return False
    return True


def changed(store, random, amount):
    """A store with a price somewhere raised by the amount."""
    begins, ends = list(store.begins), list(store.ends)
    costs = [[list(row) for row in table] for table in store.costs]
    row = random.choice([begins, ends] + [row for table in costs for row in table] * 2)
    row[random.randrange(len(row))] += amount
    return Store(store.asks, begins, costs, ends)


def doubled(store, random):
    """A store with a second state that is like one of its states, but perhaps dearer to reach."""
    state, more = random.randrange(len(store)), random.randrange(3)
    def longer(row):
        return [*row, row[state] + more]
    costs = [[longer(row) for row in [*table, table[state]]] for table in store.costs]
    return Store(store.asks, longer(store.begins), costs, [*store.ends, store.ends[state]])


class FoldTests(unittest.TestCase):
    def check_yes(self, teller, store):
        verdict = folds(teller, store)
        self.assertIs(verdict.holds, True)
        self.assertTrue(verdict)
        self.assertEqual((verdict.row, verdict.first, verdict.second), (None, None, None))
        self.assertIsInstance(verdict.fold, tuple)
        self.assertTrue(plain_fold(teller, store, verdict.fold))
        self.assertIs(judge_fold(teller, store, verdict.fold), True)
        for row in rows_up_to(store.asks, 4):
            self.assertGreaterEqual(plain_tells(store, row), plain_tells(teller, row))

    def check_no(self, teller, store):
        verdict = folds(teller, store)
        self.assertIs(verdict.holds, False)
        self.assertFalse(verdict)
        self.assertIsNone(verdict.fold)
        self.assertEqual(verdict.first, plain_tells(teller, verdict.row))
        self.assertEqual(verdict.second, plain_tells(store, verdict.row))
        self.assertLess(verdict.second, verdict.first)
        for row in rows_up_to(store.asks, min(5, len(verdict.row))):
            if (len(row), row) < (len(verdict.row), verdict.row):
                self.assertGreaterEqual(plain_tells(store, row), plain_tells(teller, row))

    def check(self, teller, store):
        verdict = folds(teller, store)
        (self.check_yes if verdict else self.check_no)(teller, store)
        return verdict.holds

    def test_the_example(self):
        self.assertIs(folds(teller=EXAMPLE, store=EXAMPLE).holds, True)
        for teller in (EXAMPLE, example_machine()):
            self.check_yes(teller, EXAMPLE)
            self.check_yes(teller, great_store(EXAMPLE))
        self.check_yes(EXAMPLE, Store("ab", (0,), (((0,),), ((2,),)), (0,)))
        verdict = folds(EXAMPLE, Store("ab", (0,), (((0,),), ((0,),)), (0,)))
        self.assertEqual((verdict.holds, verdict.row, verdict.first, verdict.second), (False, "b", 1, 0))

    def test_each_price_lowered(self):
        random = Random(80)
        seen = {True: 0, False: 0}
        for _ in range(250):
            asks = random.choice(("a", "ab", "abc"))
            store = random_store(random, asks, random.randint(1, 3), 4)
            teller = random.choice((store, least_machine(store)))
            amount = random.choice((-2, -1, 1, 2, 5))
            seen[self.check(teller, changed(store, random, amount))] += 1
        self.assertGreater(min(seen.values()), 60)

    def test_doubled_states(self):
        random = Random(81)
        for _ in range(60):
            store = random_store(random, random.choice(("a", "ab")), random.randint(1, 3), 4)
            self.check_yes(store, doubled(doubled(store, random), random))

    def test_other_stores(self):
        random = Random(82)
        seen = {True: 0, False: 0}
        for _ in range(200):
            asks = random.choice(("a", "ab"))
            one = random_store(random, asks, random.randint(1, 3), 3)
            other = random_store(random, asks, random.randint(1, 3), random.choice((3, 5)))
            seen[self.check(one, other)] += 1
        self.assertGreater(min(seen.values()), 30)

    def test_machines(self):
        random = Random(83)
        for _ in range(60):
            machine = potential_machine(random, "ab", random.randint(1, 4), 2, 0)
            great = great_store(machine)
            self.check_yes(machine, great)
            self.check(machine, changed(great, random, random.choice((-1, 1))))

    def test_the_least_of_several_rows(self):
        # "b" is cheaper by 5, "a" by 1 only, and the empty row by nothing.
        store = Store("ab", (0,), (((-1,),), ((-5,),)), (0,))
        teller = Store("ab", (0,), (((0,),), ((0,),)), (0,))
        verdict = folds(teller, store)
        self.assertEqual((verdict.row, verdict.first, verdict.second), ("a", 0, -1))
        verdict = folds(teller, Store("ab", (-1,), (((-1,),), ((0,),)), (0,)))
        self.assertEqual((verdict.row, verdict.first, verdict.second), ("", 0, -1))

    def test_a_long_row(self):
        # Each pair of asks brings the store nearer by 1, from 1,500 on.
        store = Store("ab", (1500,), (((2,),), ((-3,),)), (0,))
        teller = Store("ab", (0,), (((0,),), ((0,),)), (0,))
        verdict = folds(teller, store)
        self.assertEqual((verdict.row, verdict.first, verdict.second), ("b" * 501, 0, -3))
        turn = Store("ab", (1000, 2000), (((9, 2), (9, 9)), ((9, 9), (-3, 9))), (0, 0))
        verdict = folds(teller, turn)
        self.assertEqual((verdict.row, verdict.second), ("ab" * 1001, -1))
        self.assertEqual(verdict.first, 0)

    def test_many_states(self):
        random = Random(84)
        store = random_store(random, "ab", 1000, 50)
        self.assertTrue(folds(EXAMPLE, Store("ab", store.begins, [
            [[price + 1 for price in row] for row in table] for table in store.costs], store.ends)))
        teller = Store("ab", (0,), (((1,),), ((2,),)), (0,))
        cheaper = [row for row in rows_up_to("ab", 4) if plain_tells(store, row) < plain_tells(teller, row)]
        verdict = folds(teller, store)
        self.assertEqual((verdict.holds, verdict.row), (False, cheaper[0]))
        self.assertEqual((verdict.first, verdict.second), (plain_tells(teller, cheaper[0]), plain_tells(store, cheaper[0])))

    def test_a_store_with_too_many_standings_may_fold(self):
        many = counting_store(1500)
        verdict = folds(counting_store(5), many)
        self.assertIs(verdict.holds, True)
        self.assertTrue(plain_fold(counting_store(5), many, verdict.fold))
        self.assertIs(judge_fold(counting_store(5), many, verdict.fold), True)

    def test_400_kinds_and_views(self):
        for machine in (chain_machine(400), swing_machine(200, 199)):
            great = great_store(machine)
            verdict = folds(machine, great)
            self.assertIs(verdict.holds, True)
            self.assertIs(judge_fold(machine, great, verdict.fold), True)

    def test_more_views_than_400(self):
        machine = swing_machine(10 ** 50, 10 ** 40)
        self.check_yes(machine, is_hindsight(machine).store)
        self.check_no(machine, Store("ab", (0,), (((0,),), ((0,),)), (0,)))


class JudgeTests(unittest.TestCase):
    def test_folds_changed_at_each_place(self):
        random = Random(85)
        seen = {True: 0, False: 0}
        for _ in range(60):
            store = random_store(random, random.choice(("a", "ab")), random.randint(1, 3), 4)
            target = doubled(changed(store, random, 1), random)
            told, fold = views(store), folds(store, target).fold
            for at in range(len(fold)):
                view, shift = fold[at]
                others = [(view, shift + more) for more in (-1, 1, 2)] + [(other, shift) for other in told]
                for pair in others:
                    thing = [[list(view), shift] for view, shift in (*fold[:at], pair, *fold[at + 1:])]
                    right = plain_fold(store, target, thing)
                    self.assertIs(judge_fold(store, target, thing), right)
                    seen[right] += 1
        self.assertGreater(min(seen.values()), 100)

    def test_wrong_forms(self):
        fold = folds(EXAMPLE, EXAMPLE).fold
        self.assertIs(judge_fold(teller=EXAMPLE, store=EXAMPLE, fold=fold), True)
        self.assertIs(judge_fold(EXAMPLE, EXAMPLE, [[list(view), shift] for view, shift in fold]), True)
        view, shift = fold[1]
        wrong = [(), (view,), (view, shift, 0), None, 0, "ab", (shift, view), ("01", shift), ((0,), shift), ((), shift)]
        wrong += [((*view, 0), shift), (view, (shift,)), {0: view, 1: shift}]
        wrong += [(view, thing) for thing in NO_INTEGERS] + [((0, thing), shift) for thing in NO_INTEGERS]
        wrong += [((thing, 0), shift) for thing in NO_INTEGERS]
        for pair in wrong:
            self.assertIs(judge_fold(EXAMPLE, EXAMPLE, (fold[0], pair)), False)
        for thing in (None, 1, True, "ab", (), fold[:1], fold * 2, {0: fold[0], 1: fold[1]}, (*fold, fold[0])):
            self.assertIs(judge_fold(EXAMPLE, EXAMPLE, thing), False)

    def test_views_that_are_none(self):
        teller = Store("ab", (0,), (((0,),), ((0,),)), (0,))
        store = Store("ab", (9,), (((9,),), ((9,),)), (9,))
        self.assertIs(judge_fold(teller, store, (((0,), 0),)), True)
        # Another least number than 0, and a shift that makes up for it.
        self.assertIs(judge_fold(teller, store, (((1,), -1),)), False)
        self.assertIs(judge_fold(teller, store, (((-1,), 1),)), False)
        dear = Store("ab", (99,), (((99,),), ((99,),)), (99,))
        for view in ((0, 0), (0, 1), (1, 0)):
            self.assertIs(judge_fold(EXAMPLE, dear, ((view, 0),)), True)
        # The distances of the example's kinds are 1, so these are not closed.
        for view in ((0, 2), (2, 0), (0, 50)):
            self.assertIs(judge_fold(EXAMPLE, dear, ((view, 0),)), False)
        for view in ((1, 1), (1, 2), (-1, 0)):
            self.assertIs(judge_fold(EXAMPLE, dear, ((view, 0),)), False)

    def test_begins_steps_and_ends(self):
        fold = (((0, 0), 0),)
        def judge(begin, a, b, end):
            return judge_fold(EXAMPLE, Store("ab", (begin,), (((a,),), ((b,),)), (end,)), fold)
        self.assertIs(judge(0, 1, 1, 0), True)
        self.assertIs(judge(-1, 1, 1, 0), False)
        self.assertIs(judge(0, 0, 1, 0), False)
        self.assertIs(judge(0, 1, 0, 0), False)
        self.assertIs(judge(0, 1, 1, -1), False)
        # Lower beginnings are made up for by a shift below 0, which the end has to give back.
        self.assertIs(judge_fold(EXAMPLE, Store("ab", (-4,), (((1,),), ((1,),)), (4,)), (((0, 0), -4),)), True)
        self.assertIs(judge_fold(EXAMPLE, Store("ab", (-4,), (((1,),), ((1,),)), (3,)), (((0, 0), -4),)), False)

    def test_nothing_is_changed(self):
        fold = [[list(view), shift] for view, shift in folds(EXAMPLE, EXAMPLE).fold]
        before = [[list(view), shift] for view, shift in fold]
        judge_fold(EXAMPLE, EXAMPLE, fold)
        self.assertEqual(fold, before)


class ErrorTests(unittest.TestCase):
    CALLS = (folds, lambda teller, store: judge_fold(teller, store, None))

    def test_unlike_asks_go_first(self):
        for call in self.CALLS:
            for teller, store in ((ENDLESS, counting_store(3)), (counting_store(1000), EXAMPLE), (EXAMPLE, counting_store(3))):
                error = caught(call, teller, store)
                self.assertEqual((type(error), error.word), (Unlike, "asks"))

    def test_no_hindsight(self):
        turned = Machine("ab", 0, (((0, 0), (1, 0)), ((1, 1), (1, 2))))
        for call in self.CALLS:
            error = caught(call, ENDLESS, EXAMPLE)
            self.assertEqual((type(error), error.one, error.other), (NotHindsight, 0, 1))
            error = caught(call, turned, EXAMPLE)
            self.assertEqual((error.one, error.other), (1, 0))

    def test_too_many(self):
        for call in self.CALLS:
            error = caught(call, counting_store(1000), counting_store(2000))
            self.assertEqual((type(error), error.word), (TooMany, "standing"))
            error = caught(call, chain_machine(401), EXAMPLE)
            self.assertEqual((type(error), error.word), (TooMany, "column"))


if __name__ == "__main__":
    unittest.main()
