import unittest
from random import Random

from afterwise.errors import BadAsks, BadLine
from afterwise.stores import Store
from afterwise.storelines import read_store, write_store
from tests.helpers import caught, example_store, random_store

EXAMPLE = example_store()
LINES = ("store ab", "begins 0 1", "cost a 0 3", "cost a 1 2", "cost b 2 1", "cost b 3 0", "ends 0 0")


class WriteTests(unittest.TestCase):
    def test_the_example(self):
        self.assertEqual(tuple(write_store(EXAMPLE)), LINES)
        self.assertEqual(tuple(write_store(store=EXAMPLE)), LINES)
        self.assertEqual(read_store(LINES), EXAMPLE)
        self.assertEqual(read_store(lines=list(LINES)), EXAMPLE)

    def test_nothing_is_done_before_it_is_iterated(self):
        lines = write_store(EXAMPLE)
        self.assertIs(iter(lines), lines)
        self.assertEqual(next(lines), "store ab")
        self.assertEqual(next(lines), "begins 0 1")
        # No error comes until the first step.
        lines = write_store(None)
        self.assertRaises(Exception, next, lines)

    def test_written_and_read_back(self):
        random = Random(200)
        for _ in range(100):
            asks = random.choice(("a", "dh", "bcd", "efgh"))
            high = random.choice((2, 10 ** 3, 10 ** 60))
            drawn = random_store(random, asks, random.randint(1, 4), high)
            def turned(prices):
                return [price * random.choice((-1, 1)) for price in prices]
            costs = [[turned(row) for row in table] for table in drawn.costs]
            store = Store(asks, turned(drawn.begins), costs, turned(drawn.ends))
            lines = tuple(write_store(store))
            self.assertEqual(len(lines), 3 + len(asks) * len(store))
            self.assertEqual(read_store(lines), store)

    def test_figures(self):
        great = 10 ** 60 - 1
        store = Store("c", (-1,), (((0,),),), (-great,))
        self.assertEqual(tuple(write_store(store)), ("store c", "begins -1", "cost c 0", "ends -" + "9" * 60))
        self.assertEqual(read_store(tuple(write_store(store))), store)


class ReadTests(unittest.TestCase):
    def refused(self, lines, line, word, asks=None):
        for thing in (tuple(lines), list(lines)):
            error = caught(read_store, thing)
            self.assertEqual((type(error), error.line, error.word), (BadLine, line, word))
            if asks is None:
                self.assertIsNone(error.__cause__)
            else:
                self.assertIsInstance(error.__cause__, BadAsks)
                self.assertEqual(error.__cause__.thing, asks)

    def changed(self, at, line):
        return LINES[:at] + (line,) + LINES[at + 1:]

    def test_no_tuple_of_lines(self):
        for thing in (None, 1, True, "store ab", "\n".join(LINES), dict.fromkeys(LINES), iter(LINES), set(LINES)):
            error = caught(read_store, thing)
            self.assertEqual((type(error), error.line, error.word), (BadLine, -1, 0))

    def test_lines_that_are_no_strings(self):
        for at in range(len(LINES)):
            for thing in (None, 1, True, b"ends 0 0", ("ends", "0", "0"), [LINES[at]]):
                self.refused(self.changed(at, thing), at, 0)
                self.refused(LINES + (thing,), 7, 0)

    def test_lines_left_out_and_too_many(self):
        for at in range(len(LINES)):
            self.refused(LINES[:at], at, 0)
            # Without a line the next one stands where it cannot; the last one is then missing.
            word = {0: 0, 1: 0, 2: None, 3: None, 4: None, 5: 0, 6: 0}[at]
            if word is not None:
                self.refused(LINES[:at] + LINES[at + 1:], at, word)
        self.refused(LINES[:2] + LINES[3:], 3, 1)
        self.refused(LINES[:3] + LINES[4:], 3, 1)
        self.refused(LINES[:4] + LINES[5:], 5, 0)
        for line in ("", "ends 0 0", "x", "store ab", " "):
            self.refused(LINES + (line,), 7, 0)
        self.refused(LINES + LINES, 7, 0)
        self.refused((), 0, 0)

    def test_the_first_line(self):
        for line, word, asks in (
            ("", 0, None), (" ", 0, None), ("stores ab", 0, None), ("Store ab", 0, None), (" store ab", 0, None), ("begins 0 1", 0, None),
            ("store", 1, None), ("store ", 1, ""), ("store  ab", 1, ""), ("store ba", 1, "ba"), ("store abi", 1, "abi"),
            ("store abcde", 1, "abcde"), ("store aa", 1, "aa"), ("store AB", 1, "AB"), ("store ab ", 2, None), ("store ab 1", 2, None),
            ("store  ", 1, ""), ("store ba c", 1, "ba"), ("store ab  ", 2, None), ("store 1", 1, "1"),
        ):
            self.refused(self.changed(0, line), 0, word, asks)
            # What comes behind is not looked at.
            self.refused((line, None, 7), 0, word, asks)

    def test_words_of_the_other_lines(self):
        for at, line in enumerate(LINES[1:], 1):
            words = line.split(" ")
            first = 2 if words[0] == "cost" else 1
            for number in range(first):
                for word in ("", "begin", "costs", "Ends", "store", "0", "ab", "x"):
                    wrong = words[:number] + [word] + words[number + 1:]
                    self.refused(self.changed(at, " ".join(wrong)), at, number)
            # Blanks ahead and doubled.
            self.refused(self.changed(at, " " + line), at, 0)
            self.refused(self.changed(at, ""), at, 0)
            for number in range(1, len(words)):
                self.refused(self.changed(at, " ".join(words[:number]) + "  " + " ".join(words[number:])), at, number)
            if at > 1:
                # Words left out and too many; the line of the begins tells how many prices there are.
                for number in range(1, len(words)):
                    self.refused(self.changed(at, " ".join(words[:number])), at, number)
                for word in ("0", "x", "", "-5", "ends"):
                    self.refused(self.changed(at, line + " " + word), at, len(words))

    def test_the_line_of_the_begins(self):
        self.refused(self.changed(1, "begins"), 1, 1)
        self.refused(self.changed(1, "begins "), 1, 1)
        self.refused(self.changed(1, "begins 0 "), 1, 2)
        self.refused(self.changed(1, "begins 0 1 "), 1, 3)
        # With another number of prices it is the next line that is wrong.
        self.refused(self.changed(1, "begins 0"), 2, 3)
        self.refused(self.changed(1, "begins 0 1 2"), 2, 4)

    def test_asks_of_other_stores(self):
        self.refused(self.changed(0, "store a"), 4, 0)
        self.refused(self.changed(0, "store ac"), 4, 1)
        self.refused(self.changed(0, "store abc"), 6, 0)
        self.refused(self.changed(2, "cost b 0 3"), 2, 1)
        self.refused(self.changed(4, "cost a 0 3"), 4, 1)

    def test_prices(self):
        for at, line in enumerate(LINES[1:], 1):
            words = line.split(" ")
            first = 2 if words[0] == "cost" else 1
            for number in range(first, len(words)):
                for word in (
                    "-0", "+1", "00", "-", "", "01", "-01", "1.0", "1e3", "x", "1x", "--1", "1-", "- 1", "0x1", "1_0", "-00",
                    "9" * 61, "-" + "9" * 61, "1" + "0" * 60, "0" * 60, "1,0",
                ):
                    wrong = words[:number] + [word] + words[number + 1:]
                    self.refused(self.changed(at, " ".join(wrong)), at, number)
                for word in ("0", "-1", "10", "-10", "9" * 60, "-" + "9" * 60, "1" + "0" * 59):
                    right = words[:number] + [word] + words[number + 1:]
                    store = read_store(self.changed(at, " ".join(right)))
                    self.assertIn(int(word), (*store.begins, *store.ends, *sum(sum(store.costs, ()), ())))

    def test_the_first_wrong_word_is_told(self):
        self.refused(self.changed(2, "cost a 00 -0 1"), 2, 2)
        self.refused(self.changed(2, "cost a 0 -0 1"), 2, 3)
        self.refused(("store ab", "begins 0 x", "y"), 1, 2)
        self.refused(("store ab", "begins 0 1", "cost b", None), 2, 1)
        self.refused(("store ab", "begins -", None), 1, 1)

    def test_1000_and_1001_prices(self):
        def lines(count):
            zeros = " 0" * count
            return ("store a", "begins" + zeros, *["cost a" + zeros] * count, "ends" + zeros)
        store = read_store(lines(1000))
        self.assertEqual(len(store), 1000)
        self.assertEqual(tuple(write_store(store)), lines(1000))
        self.refused(lines(1001), 1, 1001)
        self.refused(("store a", "begins" + " 0" * 1000 + " x"), 1, 1001)
        self.refused(("store a", "begins" + " 0" * 999 + " x 0"), 1, 1000)

    def test_about_2000_lines(self):
        store = Store("abcd", (0,) * 499, [[[k] * 499 for _ in range(499)] for k in range(4)], (1,) * 499)
        lines = list(write_store(store))
        self.assertEqual(len(lines), 1999)
        self.assertEqual(read_store(lines), store)
        self.refused(lines[:-1], 1998, 0)
        self.refused(lines + [""], 1999, 0)

    def test_nothing_is_changed(self):
        lines = list(LINES)
        read_store(lines)
        self.assertEqual(lines, list(LINES))


if __name__ == "__main__":
    unittest.main()
