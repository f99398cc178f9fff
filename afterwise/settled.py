"""Which states are settled behind a row, before all that comes later is known."""

from afterwise.checks import check_row
from afterwise.tracks import Tracks, states_of


def possible_states(store, row, *, later=""):
    """The states in which some best course for the rows and some row behind them is behind the first row."""
    numbers, tracks = numbers_along(store, row, later)
    return tuple(possible_ones(store, tracks, numbers, later))


def sure_states(store, row, *, later=""):
    """The states in which for every row behind both rows some best course is behind the first row."""
    numbers, tracks = numbers_along(store, row, later)
    sure = []
    for state in possible_ones(store, tracks, numbers, later):
        mask = 1 << state
        for number, ask in zip(numbers, later):
            mask = tracks.led(number, store.asks.find(ask), mask)
        if tracks.never_lost(numbers[-1], mask):
            sure.append(state)
    return tuple(sure)


def numbers_along(store, row, later):
    """The numbers of the standings behind a row and then behind each ask of a later one, and the tracks."""
    check_row(store.asks, row)
    check_row(store.asks, later)
    tracks = Tracks(store)
    number = 0
    for ask in row:
        number = tracks.steps[number][store.asks.find(ask)][0]
    numbers = [number]
    for ask in later:
        numbers.append(tracks.steps[numbers[-1]][store.asks.find(ask)][0])
    return numbers, tracks


def possible_ones(store, tracks, numbers, later):
    """The possible states, when the standings along the later row are told by their numbers."""
    mask = tracks.useful[numbers[-1]]
    for at in range(len(later) - 1, -1, -1):
        mask = tracks.led_back(numbers[at], store.asks.find(later[at]), mask)
    return states_of(mask)
