"""Live stores: a store whose prices change, and how it stands to the tellers that are watched."""

from afterwise.checks import check_ask, check_like_asks, check_state
from afterwise.errors import BadDeed, BadPrice, BadTitle, NoDeed, Twice, Unknown
from afterwise.forms import is_integer, is_tuple
from afterwise.machines import least_machine
from afterwise.stores import Store
from afterwise.verdicts import verdict_on

LETTERS = "abcdefghijklmnopqrstuvwxyz"
LONGEST_TITLE = 20
# For the word of each deed the number of things that it has.
DEEDS = {"price": 5, "begin": 3, "end": 3, "watch": 3, "drop": 2}


class Page:
    """How all stands behind a deed: the store, its least machine, and for each watch its machine and verdict.

    Pages do not change. So to go back to a page is to take back all that has come since then, and what can be undone
    and done again from there is as it was.
    """

    def __init__(self, store, machine, watches, verdicts_now, back, forth):
        self.store = store
        self.machine = machine
        self.watches = watches
        self.verdicts_now = verdicts_now
        # The page ahead of the last deed, and the pages behind the deeds that were taken back, the next one first.
        self.back = back
        self.forth = forth


class Trial:
    """A stretch of deeds that are taken back at its end."""

    def __init__(self, live):
        self.live = live
        self.kept = None

    def __enter__(self):
        self.kept = self.live.page

    def __exit__(self, kind, value, trace):
        live = self.live
        live.page = self.kept


class LiveStore:
    """A store whose prices change, with watches that tell how it stands to tellers over the same asks."""

    def __init__(self, store):
        self.page = Page(store, least_machine(store), (), (), None, None)

    @property
    def as_store(self):
        """The store as it is now."""
        return self.page.store

    @property
    def titles(self):
        """The titles of the watches, in their order."""
        return tuple([title for title, _ in self.page.watches])

    @property
    def verdicts(self):
        """The pairs of a title and a verdict, in the order of the watches."""
        return self.page.verdicts_now

    def set_price(self, ask, one, other, price):
        """Sets the price of an ask from the state one to the state other; the titles turned."""
        store = self.page.store
        check_ask(store.asks, ask)
        check_state(len(store), one)
        check_state(len(store), other)
        check_price(price)
        costs = list(store.costs)
        place = store.asks.find(ask)
        costs[place] = changed(costs[place], one, changed(costs[place][one], other, price))
        return self.turn_to(Store(store.asks, store.begins, costs, store.ends))

    def set_begin(self, state, price):
        """Sets the begin price of a state; the titles turned."""
        store = self.page.store
        check_state(len(store), state)
        check_price(price)
        return self.turn_to(Store(store.asks, changed(store.begins, state, price), store.costs, store.ends))

    def set_end(self, state, price):
        """Sets the end price of a state; the titles turned."""
        store = self.page.store
        check_state(len(store), state)
        check_price(price)
        return self.turn_to(Store(store.asks, store.begins, store.costs, changed(store.ends, state, price)))

    def watch(self, title, teller):
        """Begins a watch; its title."""
        page = self.page
        if not is_title(title):
            raise BadTitle(title)
        if title in self.titles:
            raise Twice(title)
        check_like_asks(page.store, teller)
        machine = least_machine(teller)
        watches = (*page.watches, (title, machine))
        verdicts_now = (*page.verdicts_now, (title, verdict_on(page.machine, machine)))
        self.page = Page(page.store, page.machine, watches, verdicts_now, page, None)
        return (title,)

    def drop(self, title):
        """Drops a watch; no title."""
        page = self.page
        if not isinstance(title, str) or title not in self.titles:
            raise Unknown(title)
        watches = tuple([watched for watched in page.watches if watched[0] != title])
        verdicts_now = tuple([pair for pair in page.verdicts_now if pair[0] != title])
        self.page = Page(page.store, page.machine, watches, verdicts_now, page, None)
        return ()

    def undo(self):
        """Takes back the last deed that is not taken back; the titles turned."""
        page = self.page
        if page.back is None:
            raise NoDeed("undo")
        then = page.back
        self.page = Page(then.store, then.machine, then.watches, then.verdicts_now, then.back, page)
        return turned_between(page, then)

    def redo(self):
        """Does the deed again that was taken back last; the titles turned."""
        page = self.page
        if page.forth is None:
            raise NoDeed("redo")
        then = page.forth
        self.page = Page(then.store, then.machine, then.watches, then.verdicts_now, page, then.forth)
        return turned_between(page, then)

    def trial(self):
        """What stands in a with statement, at whose end all deeds since its beginning are taken back."""
        return Trial(self)

    def tried(self, deeds):
        """The verdicts behind each of the deeds; then all is as before."""
        check_deeds(deeds)
        found = []
        with self.trial():
            for deed in deeds:
                self.do(deed)
                found.append(self.verdicts)
        return tuple(found)

    def copy(self):
        """A live store that has all that this one has, and goes its own way."""
        # Pages do not change, so both can have the same one; this one's least machine is not worked out again.
        asks = self.page.store.asks
        other = LiveStore(Store(asks, (0,), (((0,),),) * len(asks), (0,)))
        other.page = self.page
        return other

    def turn_to(self, store):
        """Goes on to a page with another store; the titles turned."""
        page = self.page
        machine = least_machine(store)
        verdicts_now = page.verdicts_now
        if machine != page.machine:
            verdicts_now = tuple([(title, verdict_on(machine, watched)) for title, watched in page.watches])
        self.page = Page(store, machine, page.watches, verdicts_now, page, None)
        return turned_between(page, self.page)

    def do(self, deed):
        """Does a deed that is told by its word and the things that it is about."""
        word, *things = deed
        if word == "price":
            self.set_price(*things)
        elif word == "begin":
            self.set_begin(*things)
        elif word == "end":
            self.set_end(*things)
        elif word == "watch":
            self.watch(*things)
        else:
            self.drop(*things)


def turned_between(page, then):
    """The titles of those watches that two pages both have and whose verdicts are not the same."""
    verdicts_ahead = {title: verdict for title, verdict in page.verdicts_now}
    return tuple([
        title for title, verdict in then.verdicts_now
        if title in verdicts_ahead and verdicts_ahead[title] != verdict
    ])


def changed(things, place, thing):
    """The tuple with another thing in a place."""
    return (*things[:place], thing, *things[place + 1:])


def check_price(thing):
    """Raises an error for a thing that is no price."""
    if not is_integer(thing):
        raise BadPrice(thing)


def is_title(thing):
    """Whether a thing is a string of 1 to 20 letters from a to z."""
    return isinstance(thing, str) and 1 <= len(thing) <= LONGEST_TITLE and all([sign in LETTERS for sign in thing])


def check_deeds(thing):
    """Raises an error for a thing that is no tuple of deeds by their words and lengths."""
    if not is_tuple(thing):
        raise BadDeed(-1)
    for number, deed in enumerate(thing):
        if not is_tuple(deed) or not deed or not isinstance(deed[0], str):
            raise BadDeed(number)
        if deed[0] not in DEEDS or len(deed) != DEEDS[deed[0]]:
            raise BadDeed(number)
