"""Stores written in lines, and read from them."""

from afterwise.errors import BadAsks, BadLine
from afterwise.forms import is_tuple
from afterwise.plain import is_asks
from afterwise.stores import MOST_STATES, Store

FIGURES = "0123456789"
MOST_FIGURES = 60


def read_store(lines):
    """The store that is written in a tuple of lines."""
    if not is_tuple(lines):
        raise BadLine(-1, 0)
    reader = Reader(lines)
    asks = reader.read_asks()
    begins = reader.read_prices(["begins"], 1, MOST_STATES)
    count = len(begins)
    costs = []
    for ask in asks:
        costs.append([reader.read_prices(["cost", ask], count, count) for _ in begins])
    ends = reader.read_prices(["ends"], count, count)
    if reader.at < len(lines):
        raise BadLine(reader.at, 0)
    return Store(asks, begins, costs, ends)


def write_store(store):
    """The lines of a store, one after the other."""
    yield f"store {store.asks}"
    yield line_of(["begins"], store.begins)
    for ask, table in zip(store.asks, store.costs):
        for prices in table:
            yield line_of(["cost", ask], prices)
    yield line_of(["ends"], store.ends)


def line_of(words, prices):
    """A line of words and prices."""
    return " ".join(words + [str(price) for price in prices])


class Reader:
    """Reads lines one after the other; at is the number of the line that comes next."""

    def __init__(self, lines):
        self.lines = lines
        self.at = 0

    def next_words(self, words):
        """The words of the next line, which begins with words that are told."""
        if self.at == len(self.lines) or not isinstance(self.lines[self.at], str):
            raise BadLine(self.at, 0)
        found = self.lines[self.at].split(" ")
        for number, word in enumerate(words):
            if number == len(found) or found[number] != word:
                raise BadLine(self.at, number)
        return found

    def read_asks(self):
        """The asks that are told by the next line."""
        words = self.next_words(["store"])
        if len(words) == 1:
            raise BadLine(self.at, 1)
        if not is_asks(words[1]):
            raise BadLine(self.at, 1) from BadAsks(words[1])
        if len(words) > 2:
            raise BadLine(self.at, 2)
        self.at += 1
        return words[1]

    def read_prices(self, words, least, most):
        """The prices in the next line, at least and at most so many, behind words that are told."""
        found = self.next_words(words)
        prices = []
        for number in range(len(words), len(found)):
            if len(prices) == most or not is_price_word(found[number]):
                raise BadLine(self.at, number)
            prices.append(int(found[number]))
        if len(prices) < least:
            raise BadLine(self.at, len(found))
        self.at += 1
        return prices


def is_price_word(word):
    """Whether a word is a price in decimal figures, as a store is written."""
    figures = word[1:] if word.startswith("-") else word
    if not 1 <= len(figures) <= MOST_FIGURES or not all([figure in FIGURES for figure in figures]):
        return False
    # There is just one way to write a price: 0 has no sign, and other figures do not begin with 0.
    return figures[0] != "0" or word == "0"
