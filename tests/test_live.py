import unittest
from random import Random

from afterwise.claims import claim
from afterwise.errors import (
    AfterError, BadAsk, BadDeed, BadPrice, BadState, BadTitle, NoDeed, TooMany, Twice, Unknown, Unlike,
)
from afterwise.likeness import alike
from afterwise.live import LiveStore
from afterwise.machines import Machine, least_machine
from afterwise.stores import Store
from tests.helpers import (
    NO_INTEGERS, caught, counting_store, example_machine, example_store, plain_tells, random_machine, random_store,
    rows_up_to,
)
from tests.test_claims import ring_machine

EXAMPLE = example_store()
LENGTH = Machine("ab", 0, (((0, 1), (0, 1)),))


def plain_verdict(store, teller):
    """The verdict of a watch, by claims on both."""
    if alike(store, teller).holds:
        return "same"
    above = claim((teller, store), (1, -1))
    if above.holds and above.most <= 0:
        return "never less"
    below = claim((store, teller), (1, -1))
    return "never more" if below.holds and below.most <= 0 else "neither"


class PlainLive:
    """A live store by the words of the document: all is kept as it was behind each deed."""

    def __init__(self, store):
        self.now = (store, ())
        self.done, self.taken = [], []

    def verdicts(self):
        return tuple((title, plain_verdict(self.now[0], teller)) for title, teller in self.now[1])

    def deed(self, word, *things):
        before = self.verdicts()
        store, watches = self.now
        costs = [[list(row) for row in table] for table in store.costs]
        begins, ends = list(store.begins), list(store.ends)
        if word == "price":
            costs[store.asks.index(things[0])][things[1]][things[2]] = things[3]
        elif word == "begin":
            begins[things[0]] = things[1]
        elif word == "end":
            ends[things[0]] = things[1]
        elif word == "watch":
            watches = watches + (things,)
        else:
            watches = tuple(watch for watch in watches if watch[0] != things[0])
        self.done.append(self.now)
        self.taken = []
        self.now = (Store(store.asks, begins, costs, ends), watches)
        return (things[0],) if word == "watch" else self.turned(before)

    def turned(self, before):
        old = dict(before)
        return tuple(title for title, verdict in self.verdicts() if old.get(title, verdict) != verdict)

    def undo(self):
        before = self.verdicts()
        self.taken.append(self.now)
        self.now = self.done.pop()
        return self.turned(before)

    def redo(self):
        before = self.verdicts()
        self.done.append(self.now)
        self.now = self.taken.pop()
        return self.turned(before)


def do(live, deed):
    """Does a deed by the method for it."""
    names = {"price": "set_price", "begin": "set_begin", "end": "set_end", "watch": "watch", "drop": "drop"}
    return getattr(live, names[deed[0]])(*deed[1:])


def draw_deed(random, live, asks, states):
    """A deed that is not refused, drawn from a seeded source."""
    word = random.choice(("price", "price", "price", "begin", "end", "watch", "drop"))
    if word == "drop" and live.titles:
        return word, random.choice(live.titles)
    free = [title for title in ("a", "b", "c", "dd") if title not in live.titles]
    if word == "watch" and free:
        store = live.as_store
        teller = random.choice((
            random_store(random, asks, 2, 3), random_machine(random, asks, 2, 2), store,
            Store(asks, [price + 1 for price in store.begins], store.costs, store.ends),
        ))
        return word, random.choice(free), teller
    if word == "begin":
        return word, random.randrange(states), random.randint(0, 2)
    if word == "end":
        return word, random.randrange(states), random.randint(0, 2)
    return "price", random.choice(asks), random.randrange(states), random.randrange(states), random.randint(0, 3)


def all_of(live):
    """All that can be seen of a live store, with what can be undone and done again, which is done in copies."""
    seen = [(live.as_store, live.titles, live.verdicts)]
    for name in ("undo", "redo"):
        other = live.copy()
        while True:
            try:
                turned = getattr(other, name)()
            except NoDeed:
                break
            seen.append((name, turned, other.as_store, other.titles, other.verdicts))
    return seen


class DeedTests(unittest.TestCase):
    def test_the_example(self):
        live = LiveStore(store=EXAMPLE)
        self.assertEqual((live.as_store, live.titles, live.verdicts), (EXAMPLE, (), ()))
        self.assertEqual(live.watch(title="old", teller=EXAMPLE), ("old",))
        self.assertEqual(live.watch("length", LENGTH), ("length",))
        self.assertEqual(live.watch("machine", example_machine()), ("machine",))
        self.assertEqual(live.titles, ("old", "length", "machine"))
        self.assertEqual(live.verdicts, (("old", "same"), ("length", "never more"), ("machine", "same")))
        # To change becomes dearer, so that it pays more for some rows and less for none.
        self.assertEqual(live.set_price(ask="a", one=1, other=0, price=2), ("old", "machine"))
        self.assertEqual(live.verdicts[0], ("old", "never less"))
        self.assertEqual(live.as_store.price("a", 1, 0), 2)
        self.assertEqual(EXAMPLE.price("a", 1, 0), 1)
        self.assertEqual(live.set_begin(state=1, price=-5), ("old", "machine"))
        self.assertEqual(live.as_store.begins, (0, -5))
        self.assertEqual(dict(live.verdicts)["old"], "neither")
        self.assertEqual(live.set_end(state=0, price=-9), ())
        self.assertEqual(live.as_store.ends, (-9, 0))
        self.assertEqual(live.drop(title="length"), ())
        self.assertEqual(live.titles, ("old", "machine"))

    def test_each_verdict(self):
        for more, word in ((0, "same"), (1, "never less"), (-1, "never more")):
            live = LiveStore(Store("ab", [price + more for price in EXAMPLE.begins], EXAMPLE.costs, EXAMPLE.ends))
            for teller in (EXAMPLE, example_machine()):
                title = "store" if teller is EXAMPLE else "machine"
                live.watch(title, teller)
                self.assertEqual(dict(live.verdicts)[title], word)
        live = LiveStore(EXAMPLE)
        # No store pays what this machine tells: b counts for ever behind an a.
        endless = Machine("ab", 0, (((1, 0), (0, 0)), ((1, 0), (1, 1))))
        live.watch("endless", endless)
        self.assertEqual(live.verdicts, (("endless", "neither"),))
        live.watch("low", Machine("ab", -1, (((1, 0), (0, 0)), ((1, 0), (1, -1)))))
        self.assertEqual(live.verdicts[1], ("low", "never less"))
        live.watch("high", Machine("ab", 0, (((1, 1), (0, 1)), ((1, 2), (1, 1)))))
        self.assertEqual(live.verdicts[2], ("high", "never more"))

    def test_against_all_short_rows(self):
        random = Random(180)
        seen = {}
        for _ in range(300):
            asks = random.choice(("a", "ab"))
            store = random_store(random, asks, random.randint(1, 2), 3)
            teller = random.choice((random_store(random, asks, 2, 3), random_machine(random, asks, 2, 1)))
            live = LiveStore(store)
            live.watch("w", teller)
            verdict = live.verdicts[0][1]
            self.assertEqual(verdict, plain_verdict(store, teller))
            more = [plain_tells(store, row) - plain_tells(teller, row) for row in rows_up_to(asks, 5)]
            if verdict in ("same", "never less"):
                self.assertGreaterEqual(min(more), 0)
            if verdict in ("same", "never more"):
                self.assertLessEqual(max(more), 0)
            seen[verdict] = seen.get(verdict, 0) + 1
        self.assertGreater(min(seen.values()), 3)
        self.assertEqual(len(seen), 4)

    def test_many_deeds_against_the_words_of_the_document(self):
        random = Random(181)
        words = {}
        for _ in range(25):
            asks, states = random.choice(("a", "ab")), random.randint(1, 3)
            store = random_store(random, asks, states, 3)
            live, plain = LiveStore(store), PlainLive(store)
            self.assertEqual(live.watch("w", store), plain.deed("watch", "w", store))
            for _ in range(40):
                way = random.randrange(10)
                if way < 3 and plain.done:
                    word, told, right = "undo", live.undo(), plain.undo()
                elif way < 5 and plain.taken:
                    word, told, right = "redo", live.redo(), plain.redo()
                else:
                    deed = draw_deed(random, live, asks, states)
                    word, told, right = deed[0], do(live, deed), plain.deed(*deed)
                self.assertEqual(told, right)
                self.assertEqual((live.as_store, live.titles), (plain.now[0], tuple(watch[0] for watch in plain.now[1])))
                self.assertEqual(live.verdicts, plain.verdicts())
                words[word, bool(told)] = words.get((word, bool(told)), 0) + 1
        for word in ("price", "undo", "redo"):
            self.assertGreater(words[word, True], 5)
            self.assertGreater(words[word, False], 5)

    def test_a_deed_that_changes_nothing_counts(self):
        live = LiveStore(EXAMPLE)
        live.set_end(0, 5)
        self.assertEqual(live.set_price("a", 0, 0, 0), ())
        self.assertEqual(live.set_begin(1, 1), ())
        self.assertEqual(live.undo(), ())
        self.assertEqual(live.undo(), ())
        self.assertEqual(live.as_store.ends, (5, 0))
        live.undo()
        self.assertEqual(live.as_store, EXAMPLE)
        self.assertEqual(caught(live.undo).word, "undo")

    def test_what_is_returned_belongs_to_the_caller(self):
        live = LiveStore(EXAMPLE)
        live.watch("a", LENGTH)
        for thing in (live.titles, live.verdicts, live.verdicts[0], live.set_end(0, 1), live.drop("a")):
            self.assertIsInstance(thing, tuple)
        self.assertIsInstance(live.as_store, Store)


class RefusalTests(unittest.TestCase):
    def refused(self, live, kind, name, *things):
        """The error of a deed that is refused, and leaves all as it was."""
        before = all_of(live)
        error = caught(getattr(live, name), *things)
        self.assertIs(type(error), kind)
        self.assertEqual(all_of(live), before)
        return error

    def live(self):
        live = LiveStore(EXAMPLE)
        live.watch("one", LENGTH)
        live.set_end(0, 3)
        live.set_end(1, 4)
        live.undo()
        return live

    def test_prices(self):
        live = self.live()
        for thing in ("c", "", "ab", None, 0, True, ("a",), ["a"]):
            self.assertIs(self.refused(live, BadAsk, "set_price", thing, None, None, None).thing, thing)
        for thing in (2, -1, None, "0", True, False, (0,), 1.0):
            self.assertIs(self.refused(live, BadState, "set_price", "a", thing, -9, None).thing, thing)
            self.assertIs(self.refused(live, BadState, "set_price", "a", 1, thing, None).thing, thing)
            self.assertIs(self.refused(live, BadState, "set_begin", thing, None).thing, thing)
            self.assertIs(self.refused(live, BadState, "set_end", thing, None).thing, thing)
        for thing in NO_INTEGERS:
            self.assertIs(self.refused(live, BadPrice, "set_price", "a", 1, 0, thing).thing, thing)
            self.assertIs(self.refused(live, BadPrice, "set_begin", 1, thing).thing, thing)
            self.assertIs(self.refused(live, BadPrice, "set_end", 0, thing).thing, thing)

    def test_watches(self):
        live = self.live()
        other = Machine("ac", 0, (((0, 0), (0, 0)),))
        for thing in ("", "A", "a b", "a1", "abcdefghijklmnopqrstu", None, 1, True, ("one",), ["one"], b"one", "one\n"):
            self.assertIs(self.refused(live, BadTitle, "watch", thing, other).thing, thing)
        self.assertEqual(self.refused(live, Twice, "watch", "one", other).title, "one")
        self.assertEqual(self.refused(live, Unlike, "watch", "two", other).word, "asks")
        self.assertEqual(self.refused(live, Unlike, "watch", "two", counting_store(1000)).word, "asks")
        self.assertEqual(live.watch("abcdefghijklmnopqrst", LENGTH), ("abcdefghijklmnopqrst",))
        for thing in ("", "two", "ONE", None, 1, True, ("one",), ["one"], {"one": 1}, b"one"):
            self.assertIs(self.refused(live, Unknown, "drop", thing).title, thing)
        live.drop("one")
        self.refused(live, Unknown, "drop", "one")
        # The title is free again.
        self.assertEqual(live.watch("one", LENGTH), ("one",))

    def test_too_many_standings(self):
        error = caught(LiveStore, counting_store(1000))
        self.assertEqual((type(error), error.word), (TooMany, "standing"))
        live = LiveStore(counting_store(3))
        live.watch("one", counting_store(2))
        live.set_end(0, 3)
        live.undo()
        self.assertEqual(self.refused(live, TooMany, "set_price", "a", 0, 1, 1000).word, "standing")
        self.assertEqual(self.refused(live, TooMany, "watch", "two", counting_store(1000)).word, "standing")
        self.assertEqual(live.titles, ("one",))
        live.set_price("a", 0, 1, 999)
        self.assertEqual(live.as_store, counting_store(999))
        # The second state is as far behind the first as it can be, until it begins nearer to it.
        live = LiveStore(Store("a", (0, 5000), (((0, 5000), (5000, 1)),), (0, 0)))
        self.assertEqual(self.refused(live, TooMany, "set_begin", 1, 0).word, "standing")
        live.set_begin(1, 4500)

    def test_nothing_to_undo_or_redo(self):
        live = LiveStore(EXAMPLE)
        for name in ("undo", "redo"):
            self.assertEqual(self.refused(live, NoDeed, name).word, name)
        live.set_end(0, 1)
        self.refused(live, NoDeed, "redo")
        live.undo()
        self.refused(live, NoDeed, "undo")
        live.redo()
        self.refused(live, NoDeed, "redo")
        live.undo()
        # A refused deed is none, so the other one can still be done again; a new deed comes in its place.
        caught(live.set_end, 0, None)
        live.redo()
        live.undo()
        live.set_begin(0, 9)
        self.refused(live, NoDeed, "redo")
        self.assertEqual((live.as_store.begins, live.as_store.ends), ((9, 1), (0, 0)))


class UndoTests(unittest.TestCase):
    def test_each_deed_taken_back_and_done_again(self):
        live = LiveStore(EXAMPLE)
        deeds = (
            ("watch", "one", EXAMPLE), ("watch", "two", LENGTH), ("watch", "three", example_machine()),
            ("price", "a", 1, 0, 2), ("begin", 1, -5), ("drop", "two"), ("end", 0, -9), ("watch", "two", EXAMPLE), ("drop", "one"),
        )
        seen = [(live.as_store, live.titles, live.verdicts)]
        for deed in deeds:
            do(live, deed)
            seen.append((live.as_store, live.titles, live.verdicts))
        for _ in range(2):
            for at in range(len(deeds) - 1, -1, -1):
                live.undo()
                self.assertEqual((live.as_store, live.titles, live.verdicts), seen[at])
            for at in range(1, len(seen)):
                live.redo()
                self.assertEqual((live.as_store, live.titles, live.verdicts), seen[at])

    def test_the_titles_that_turned(self):
        live = LiveStore(EXAMPLE)
        live.watch("one", EXAMPLE)
        live.watch("two", EXAMPLE)
        live.watch("three", EXAMPLE)
        live.set_price("a", 1, 0, 2)
        live.drop("two")
        # A watch that is there only before or only behind has not turned.
        self.assertEqual(live.undo(), ())
        self.assertEqual(live.titles, ("one", "two", "three"))
        self.assertEqual(live.undo(), ("one", "two", "three"))
        self.assertEqual(live.redo(), ("one", "two", "three"))
        self.assertEqual(live.redo(), ())
        self.assertEqual(live.titles, ("one", "three"))
        self.assertEqual(live.undo(), ())
        self.assertEqual(live.undo(), ("one", "two", "three"))
        self.assertEqual(live.undo(), ())
        self.assertEqual(live.titles, ("one", "two"))
        self.assertEqual(live.redo(), ())
        self.assertEqual(live.verdicts[2], ("three", "same"))

    def test_thousands_of_deeds(self):
        live = LiveStore(EXAMPLE)
        for number in range(3000):
            live.set_end(0, number)
        for number in range(2999, 0, -1):
            live.undo()
            self.assertEqual(live.as_store.ends[0], number - 1)
        for number in range(1, 3000):
            live.redo()
            self.assertEqual(live.as_store.ends[0], number)


class TrialTests(unittest.TestCase):
    def live(self):
        live = LiveStore(EXAMPLE)
        live.watch("one", EXAMPLE)
        live.watch("two", LENGTH)
        live.set_end(0, 3)
        live.set_end(1, 4)
        live.undo()
        live.undo()
        return live

    def test_all_is_as_it_was(self):
        live = self.live()
        before = all_of(live)
        with live.trial():
            live.set_price("a", 1, 0, 2)
            live.drop("one")
            self.assertEqual(live.titles, ("two",))
            live.watch("three", EXAMPLE)
            live.undo()
            self.assertEqual(live.titles, ("two",))
        self.assertEqual(all_of(live), before)
        with live.trial():
            pass
        self.assertEqual(all_of(live), before)
        # Deeds from ahead of the trial can be taken back in it, too.
        with live.trial():
            live.redo()
            live.undo()
            live.undo()
            live.undo()
            self.assertEqual(caught(live.undo).word, "undo")
            live.set_begin(0, 7)
        self.assertEqual(all_of(live), before)
        live.redo()
        self.assertEqual(live.as_store.ends, (3, 0))

    def test_an_error_ends_it(self):
        live = self.live()
        before = all_of(live)
        for kind in (KeyError, AfterError, ZeroDivisionError):
            with self.assertRaises(kind):
                with live.trial():
                    live.set_end(0, 99)
                    raise kind("")
            self.assertEqual(all_of(live), before)
        with self.assertRaises(BadPrice):
            with live.trial():
                live.set_end(0, 99)
                live.set_end(0, None)
        self.assertEqual(all_of(live), before)

    def test_a_refused_deed_does_not_end_it(self):
        live = self.live()
        with live.trial():
            live.set_end(0, 99)
            caught(live.set_end, 0, None)
            self.assertEqual(live.as_store.ends, (99, 0))
        self.assertEqual(live.as_store.ends, (0, 0))

    def test_trials_within_one_another(self):
        live = self.live()
        before = all_of(live)
        with live.trial():
            live.set_end(0, 50)
            inner = all_of(live)
            with live.trial():
                live.undo()
                live.set_end(0, 60)
                with live.trial():
                    live.drop("two")
                self.assertEqual((live.as_store.ends, live.titles), ((60, 0), ("one", "two")))
            self.assertEqual(all_of(live), inner)
            with self.assertRaises(Unknown):
                with live.trial():
                    live.set_end(0, 70)
                    live.drop("nobody")
            self.assertEqual(all_of(live), inner)
        self.assertEqual(all_of(live), before)

    def test_it_begins_with_the_with(self):
        live = self.live()
        trial = live.trial()
        live.set_end(0, 8)
        before = all_of(live)
        with trial:
            live.set_end(0, 9)
        self.assertEqual(all_of(live), before)


class TriedTests(unittest.TestCase):
    def test_all_five_deeds(self):
        live = LiveStore(EXAMPLE)
        live.watch("one", EXAMPLE)
        live.set_end(0, 3)
        live.undo()
        before = all_of(live)
        deeds = [
            ["price", "a", 1, 0, 2], ("watch", "two", LENGTH), ("begin", 1, -5), ("end", 0, -9), ("drop", "one"),
        ]
        other = live.copy()
        right = []
        for deed in deeds:
            do(other, deed)
            right.append(other.verdicts)
        self.assertEqual(live.tried(deeds=deeds), tuple(right))
        self.assertEqual(live.tried(tuple(deeds)), tuple(right))
        self.assertEqual(right[1], (("one", "never less"), ("two", "never more")))
        self.assertEqual(all_of(live), before)
        self.assertEqual(deeds[0], ["price", "a", 1, 0, 2])
        self.assertEqual((live.tried(()), live.tried([])), ((), ()))
        with live.trial():
            live.set_end(0, 7)
            self.assertEqual(live.tried((("end", 0, 0),)), ((("one", "same"),),))
            self.assertEqual(live.as_store.ends, (7, 0))

    def test_refused_deeds(self):
        live = LiveStore(EXAMPLE)
        live.watch("one", EXAMPLE)
        live.set_end(0, 3)
        live.undo()
        before = all_of(live)
        first = ("end", 0, 9)
        other = Machine("ac", 0, (((0, 0), (0, 0)),))
        great = Store("ab", (0, 0), (((0, 1000), (0, 1)),) * 2, (0, 0))
        for deed, kind in (
            (("price", "c", None, 0, 1), BadAsk), (("price", "a", 2, 0, 1), BadState), (("price", "a", 1, True, 1), BadState),
            (("price", "a", 1, 0, None), BadPrice), (("begin", 2, 0), BadState), (("end", 0, "0"), BadPrice),
            (("watch", "One", EXAMPLE), BadTitle), (("watch", "one", EXAMPLE), Twice), (("watch", "two", other), Unlike),
            (("watch", "two", great), TooMany), (("drop", "two"), Unknown), (("drop", ["one"]), Unknown),
        ):
            self.assertIs(type(caught(live.tried, (first, deed, first))), kind)
            self.assertEqual(all_of(live), before)

    def test_things_that_are_no_deeds(self):
        live = LiveStore(EXAMPLE)
        live.set_end(0, 3)
        before = all_of(live)
        for thing in (None, 1, True, "drop", {0: ("end", 0, 1)}, b"", {("end", 0, 1)}):
            self.assertEqual(caught(live.tried, thing).number, -1)
        refused = ("end", 7, 1)
        for thing in (
            None, 1, "drop", (), [], ("drop",), ("drop", "a", "b"), ("end", 0), ("end", 0, 1, 2), ("begin",), ("price", "a", 0, 1),
            ("price", "a", 0, 1, 2, 3), ("watch", "a"), ("undo",), ("PRICE", "a", 0, 1, 2), (None, 0, 1), (["end"], 0, 1), (0, 0, 1),
            {"drop": 1, "a": 2}, ("ends", 0, 1), (("end",), 0, 1),
        ):
            # Nothing is done ahead of it, so the refused deed is not found.
            for deeds in ((refused, thing), [refused, thing, None], (refused, thing, ("drop",))):
                error = caught(live.tried, deeds)
                self.assertEqual((type(error), error.number), (BadDeed, 1))
        self.assertEqual(all_of(live), before)


class CopyTests(unittest.TestCase):
    def test_neither_is_changed_by_deeds_on_the_other(self):
        live = LiveStore(EXAMPLE)
        live.watch("one", LENGTH)
        live.set_end(0, 3)
        live.set_end(0, 4)
        live.undo()
        other = live.copy()
        self.assertIsInstance(other, LiveStore)
        self.assertEqual(all_of(other), all_of(live))
        before = all_of(live)
        other.drop("one")
        other.set_begin(0, 7)
        self.assertEqual(all_of(live), before)
        before = all_of(other)
        live.redo()
        live.watch("two", EXAMPLE)
        self.assertEqual(all_of(other), before)
        self.assertEqual((other.titles, live.titles), ((), ("one", "two")))

    def test_a_copy_outlives_a_trial(self):
        live = LiveStore(EXAMPLE)
        with live.trial():
            live.set_end(0, 5)
            other = live.copy()
            with other.trial():
                other.set_end(0, 6)
        self.assertEqual((live.as_store.ends, other.as_store.ends), ((0, 0), (5, 0)))
        self.assertEqual(other.undo(), ())
        self.assertEqual(other.as_store, EXAMPLE)

    def test_another_store_than_the_one_passed(self):
        begins = [0, 1]
        store = Store("ab", begins, [[[0, 3], [1, 2]], [[2, 1], [3, 0]]], [0, 0])
        live = LiveStore(store)
        live.set_begin(0, 5)
        self.assertEqual((store, begins), (EXAMPLE, [0, 1]))


class SpotTests(unittest.TestCase):
    def test_verdicts_with_more_than_1000_spots(self):
        # One goes round 31 kinds and the other 37, so they come to 1,147 pairs of kinds.
        one, other = ring_machine("a", 31), ring_machine("a", 37)
        self.assertEqual(caught(claim, (one, other), (1, -1)).word, "spot")
        live = LiveStore(Store("a", (-1,), (((1,),),), (0,)))
        for title, teller in (("one", one), ("other", other)):
            live.watch(title, teller)
        self.assertEqual(live.verdicts, (("one", "neither"), ("other", "neither")))
        live.set_begin(0, 0)
        self.assertEqual(live.verdicts, (("one", "never less"), ("other", "never less")))

    def rounds(self, kinds, high):
        """A store that pays high for each so many asks."""
        table = [[10 ** 6] * kinds for _ in range(kinds)]
        for state in range(kinds):
            table[state][(state + 1) % kinds] = high if state == 0 else 0
        return Store("a", [0] + [10 ** 6] * (kinds - 1), [table], [0] * kinds)

    def test_rounds_of_unlike_lengths(self):
        store = self.rounds(41, 41)
        live = LiveStore(store)
        self.assertEqual(len(least_machine(live.as_store)), 41)
        # Both gain 1 for each ask in the long run, the store at most 41 ahead of it.
        for title, first, word in (("low", -37, "never less"), ("lower", -38, "never less"), ("mid", 0, "neither"),
                                   ("high", 41, "never more"), ("just", 40, "never more"), ("under", 39, "neither")):
            steps = [((k + 1) % 37, 37 * int(k == 0)) for k in range(37)]
            live.watch(title, Machine("a", first, [(step,) for step in steps]))
            self.assertEqual(dict(live.verdicts)[title], self.by_rows(store, live, title, first))
        self.assertEqual(set(dict(live.verdicts).values()), {"never less", "never more", "neither"})

    def by_rows(self, store, live, title, first):
        """The verdict by all rows until both are again as at the beginning."""
        more, one, other = [], 0, first
        for asks in range(37 * 41):
            more.append(one - other)
            one += 41 * int(asks % 41 == 0)
            other += 37 * int(asks % 37 == 0)
        if min(more) >= 0:
            return "never less"
        return "never more" if max(more) <= 0 else "neither"

    def test_a_million_pairs(self):
        # The one counts each a, the other each b, up to 999.
        one = Machine("ab", 0, [((min(k + 1, 999), int(k < 999)), (k, 0)) for k in range(1000)])
        costs = (((0, 999), (0, 0)), ((1, 999), (0, 0)))
        live = LiveStore(Store("ab", (0, 999), costs, (0, 0)))
        live.watch("one", one)
        self.assertEqual(live.verdicts, (("one", "neither"),))
        with live.trial():
            self.assertEqual(live.set_end(1, 999), ())
            self.assertEqual(live.set_end(0, 999), ("one",))
            self.assertEqual(live.verdicts, (("one", "never less"),))

    def test_great_prices(self):
        great = 10 ** 59
        live = LiveStore(Store("a", (great,), (((1,),),), (0,)))
        live.watch("falls", Machine("a", 0, (((0, 2),),)))
        live.watch("stays", Machine("a", 0, (((0, 1),),)))
        live.watch("rises", Machine("a", 0, (((0, 0),),)))
        # Only behind some 10 ** 59 asks the first one tells more.
        self.assertEqual(live.verdicts, (("falls", "neither"), ("stays", "never less"), ("rises", "never less")))


if __name__ == "__main__":
    unittest.main()
