"""Courses for a row: what a store pays, who pays just this, and how it is shown."""

from afterwise.checks import check_row
from afterwise.errors import BadCourse
from afterwise.forms import are_integers, is_below, is_integer, is_tuple_of
from afterwise.serving import Serving, lowered, raised


def hindsight(store, row):
    """What the store pays for the row."""
    check_row(store.asks, row)
    return least_with_ends(work_behind(Serving(store), row), store.ends)


def work(store, row):
    """The work behind the row."""
    check_row(store.asks, row)
    return work_behind(Serving(store), row)


def levels(store, row):
    """The greatest levels: the work behind each beginning of the row."""
    check_row(store.asks, row)
    return works_along(store, row)


def best_course(store, row):
    """The least of the best courses for the row."""
    check_row(store.asks, row)
    rests = rests_along(store, row)
    begun = [begin + rest for begin, rest in zip(store.begins, rests[0])]
    course = [begun.index(min(begun))]
    for at, ask in enumerate(row):
        prices = store.costs[store.asks.find(ask)][course[at]]
        gone = [price + rest for price, rest in zip(prices, rests[at + 1])]
        course.append(gone.index(rests[at][course[at]]))
    return tuple(course)


def best_courses(store, row):
    """The number of best courses for the row."""
    check_row(store.asks, row)
    serving = Serving(store)
    standing, _ = serving.start()
    counts = [1] * len(store)
    for ask in row:
        counts = serving.counted(standing, ask, counts)
        standing, _ = serving.step(standing, ask)
    best = least_with_ends(standing, store.ends)
    return sum([count for count, number, end in zip(counts, standing, store.ends) if number + end == best])


def paid(store, row, course):
    """What a course for the row pays."""
    check_row(store.asks, row)
    if not is_course(course, len(store), len(row)):
        raise BadCourse(course)
    amount = store.begins[course[0]] + store.ends[course[-1]]
    for ask, one, other in zip(row, course, course[1:]):
        amount = amount + store.costs[store.asks.find(ask)][one][other]
    return amount


def judge_levels(store, row, levels, amount):
    """Whether levels for the row show that no course for it pays less than the amount."""
    check_row(store.asks, row)
    if not is_integer(amount) or not is_tuple_of(levels, len(row) + 1):
        return False
    for level in levels:
        if not are_integers(level, len(store)):
            return False
    if not nowhere_above(levels[0], store.begins):
        return False
    serving = Serving(store)
    for at, ask in enumerate(row):
        standing, low = lowered(levels[at])
        then, add = serving.step(standing, ask)
        if not nowhere_above(levels[at + 1], raised(then, low + add)):
            return False
    return amount <= least_with_ends(levels[-1], store.ends)


def work_behind(serving, row):
    """The work behind a row."""
    standing, low = serving.along(row)[-1]
    return raised(standing, low)


def works_along(store, row):
    """The work behind each beginning of a row, from the empty one to the whole."""
    return tuple([raised(standing, low) for standing, low in Serving(store).along(row)])


def rests_along(store, row):
    """For each beginning of a row and each state, the least that what comes behind costs from there."""
    return works_along(~store, row[::-1])[::-1]


def least_with_ends(numbers, ends):
    """The least sum of a state's number and its end price."""
    return min([number + end for number, end in zip(numbers, ends)])


def is_course(thing, states, asks):
    """Whether a thing is a course for a row of as many asks."""
    return is_tuple_of(thing, asks + 1) and all([is_below(state, states) for state in thing])


def nowhere_above(numbers, others):
    """Whether no number is above the other one in its place."""
    return all([number <= other for number, other in zip(numbers, others)])
