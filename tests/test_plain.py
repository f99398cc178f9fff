import unittest

from afterwise.errors import BadAsks, BadRow
from afterwise.plain import is_asks, is_row, ordered

NO_ASKS = (
    "", "ba", "aa", "abcc", "abcde", "i", "hi", "ai", "A", "aB", "a b", " ", "1", None, 5, True, b"ab",
    ["a", "b"], ("a", "b"), {"a": 1}, {"a"}, "h" * 2100,
)


class AsksTests(unittest.TestCase):
    def test_asks(self):
        for asks in ("a", "h", "ab", "ah", "bdfh", "efgh", "abcd"):
            self.assertIs(is_asks(asks), True)

    def test_other_things(self):
        for thing in NO_ASKS:
            self.assertIs(is_asks(thing), False, thing)

    def test_by_name(self):
        self.assertIs(is_asks(thing="ab"), True)


class RowTests(unittest.TestCase):
    def test_rows(self):
        for row in ("", "a", "c", "ccaa", "a" * 2000, "ac" * 1000):
            self.assertIs(is_row("ac", row), True)

    def test_other_things(self):
        for thing in ("b", "acb", "A", " ", "a" * 2001, "ac" * 1050, None, 0, True, b"a", ["a"], ("a", "c"), {}):
            self.assertIs(is_row("ac", thing), False, thing)

    def test_wrong_asks(self):
        for asks in NO_ASKS:
            with self.assertRaises(BadAsks) as caught:
                is_row(asks, "a")
            self.assertIs(caught.exception.thing, asks)

    def test_by_name(self):
        self.assertIs(is_row(asks="ab", thing="ba"), True)


class OrderedTests(unittest.TestCase):
    def test_by_length_then_as_strings_without_duplicates(self):
        rows = ("ba", "", "b", "aaa", "ab", "b", "a", "ba", "")
        told = ("", "a", "b", "ab", "ba", "aaa")
        self.assertEqual(ordered("ab", rows), told)
        self.assertEqual(ordered(asks="ab", rows=list(rows)), told)
        self.assertEqual(ordered("ab", ()), ())
        self.assertEqual(ordered("ab", []), ())

    def test_long_rows(self):
        rows = ("b" * 2000, "a" * 2000, "b" * 1999)
        self.assertEqual(ordered("ab", rows), ("b" * 1999, "a" * 2000, "b" * 2000))

    def test_a_list_stays_as_it_is(self):
        rows = ["b", "a", "b"]
        self.assertIsInstance(ordered("ab", rows), tuple)
        self.assertEqual(rows, ["b", "a", "b"])

    def test_no_tuple(self):
        for rows in ("ab", "", None, 3, {"a": 1}, {"a"}, True, iter(["a"])):
            with self.assertRaises(BadRow) as caught:
                ordered("ab", rows)
            self.assertIs(caught.exception.thing, rows)

    def test_the_first_wrong_row(self):
        for first in ("c", "a" * 2001, None, 7, ["a"], ("a",), True):
            with self.assertRaises(BadRow) as caught:
                ordered("ab", ["a", first, "x", "b"])
            self.assertIs(caught.exception.thing, first)

    def test_asks_go_first(self):
        for rows in ("ab", None, ["x"], ["a"]):
            with self.assertRaises(BadAsks) as caught:
                ordered("ba", rows)
            self.assertEqual(caught.exception.thing, "ba")


if __name__ == "__main__":
    unittest.main()
