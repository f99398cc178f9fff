"""What the tests share: examples, and answers worked out by going through everything."""

from itertools import product

from afterwise.errors import AfterError
from afterwise.gates import Gate
from afterwise.machines import Machine
from afterwise.stores import Store

NO_INTEGERS = (True, False, None, "1", 1.0, (1,), b"1")


def example_store():
    """The store of the example in the document's point 34."""
    return Store("ab", (0, 1), (((0, 3), (1, 2)), ((2, 1), (3, 0))), (0, 0))


def example_machine():
    """The least machine of that store."""
    return Machine("ab", 0, (((0, 0), (1, 1)), ((0, 1), (1, 0))))


def counting_store(last):
    """A store with last + 1 standings: the second state falls behind by 1 with each ask, last at most."""
    return Store("a", (0, 0), (((0, last), (0, 1)),), (0, 0))


def chain_machine(kinds):
    """A machine in which only the step to the last kind adds something; it has as many columns as kinds."""
    last = kinds - 1
    return Machine("ab", 0, [((min(k + 1, last), int(k + 1 == last)), (0, 0)) for k in range(kinds)])


def swing_machine(down, up):
    """A machine of two kinds with the distances down and up, so with down + up + 1 views."""
    return Machine("ab", 0, (((0, 0), (1, up)), ((0, down), (1, 0))))


def rows_up_to(asks, length):
    """All rows with at most as many asks, ascending."""
    return ["".join(row) for many in range(length + 1) for row in product(asks, repeat=many)]


def all_courses(store, row):
    """All courses for a row with what they pay."""
    paid = {}
    for course in product(range(len(store)), repeat=len(row) + 1):
        amount = store.begins[course[0]] + store.ends[course[-1]]
        for ask, one, other in zip(row, course, course[1:]):
            amount += store.price(ask, one, other)
        paid[course] = amount
    return paid


def least_paid(store, row):
    """What a store pays, by going through all courses."""
    return min(all_courses(store, row).values())


def plain_work(store, row):
    """The work behind a row, state by state."""
    numbers = store.begins
    for ask in row:
        table = store.costs[store.asks.index(ask)]
        numbers = tuple(min(number + price for number, price in zip(numbers, column)) for column in zip(*table))
    return numbers


def random_store(random, asks, states, high):
    """A store with prices below high, drawn from a seeded source."""
    def draw():
        return random.randrange(high)
    table = [[[draw() for _ in range(states)] for _ in range(states)] for _ in asks]
    return Store(asks, [draw() for _ in range(states)], table, [draw() for _ in range(states)])


def random_machine(random, asks, kinds, high):
    """A machine with adds from -high to high, drawn from a seeded source."""
    steps = [[(random.randrange(kinds), random.randint(-high, high)) for _ in asks] for _ in range(kinds)]
    return Machine(asks, random.randint(-high, high), steps)


def gain(machine, kind, row):
    """The kind to which a row leads from a kind, and its gain; the row may have any length."""
    total = 0
    for ask in row:
        kind, add = machine.steps[kind][machine.asks.index(ask)]
        total += add
    return kind, total


def random_gate(random, asks, places, none):
    """A gate in which an ask cannot come with the probability told, drawn from a seeded source."""
    def draw():
        return None if random.random() < none else random.randrange(places)
    return Gate(asks, [[draw() for _ in asks] for _ in range(places)])


def plain_tells(teller, row):
    """What a teller tells for a row of any length, without its least machine."""
    if isinstance(teller, Store):
        return min(number + end for number, end in zip(plain_work(teller, row), teller.ends))
    return teller.first + gain(teller, 0, row)[1]


def caught(call, *rest, **more):
    """The error that a call raises."""
    try:
        call(*rest, **more)
    except AfterError as error:
        return error
    raise AssertionError("no error")
