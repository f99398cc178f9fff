"""Parts of stores, which have only some of the states, and what the whole store does not need."""

from afterwise.errors import BadStates, TooMany
from afterwise.forms import is_below, is_tuple
from afterwise.lanes import Lanes
from afterwise.machines import least_machine
from afterwise.rests import Rests
from afterwise.stores import Store
from afterwise.tracks import mask_of, states_of

MOST_STATES_OF_WHOLE = 10


def part_of(store, states):
    """The part of a store that has only some of the states, numbered anew in their order."""
    if not are_states(states, len(store)):
        raise BadStates(states)
    return part_with(store, states)


def needless(store):
    """The states without each of which, all others being there, the store pays the same for every row."""
    lanes = lanes_of(store)
    every = mask_of([True] * len(store))
    return tuple([
        state for state in range(len(store))
        if len(store) > 1 and lanes.lost_row(every & ~(1 << state)) is None
    ])


def least_parts(store):
    """All tuples of states whose part pays the same, while no part with only some of these does; ascending."""
    lanes = lanes_of(store)
    order = list(range(len(store)))
    masks = sorted(range(1, 1 << len(store)), key=size_of)
    found, outs = [], []
    for mask in masks:
        if [less for less in found if less & mask == less] or [out for out in outs if not out & mask]:
            continue
        asks = lanes.lost_row(mask)
        if asks is None:
            found.append(mask)
        else:
            # No part without any of these states pays the same, so many parts need not be looked at.
            outs.append(lanes.ways_out(mask, asks, order))
    return tuple(sorted([tuple(states_of(mask)) for mask in found]))


def are_states(thing, count):
    """Whether a thing is an ascending tuple of states, one or more."""
    if not is_tuple(thing) or len(thing) == 0 or not all([is_below(state, count) for state in thing]):
        return False
    return all([low < high for low, high in zip(thing, thing[1:])])


def part_with(store, states):
    """The part of a store that has the states."""
    return Store(
        store.asks,
        [store.begins[state] for state in states],
        [[[table[one][other] for other in states] for one in states] for table in store.costs],
        [store.ends[state] for state in states],
    )


def lanes_of(store):
    """The lanes of a store, with all errors of it."""
    if len(store) > MOST_STATES_OF_WHOLE:
        raise TooMany("state")
    machine = least_machine(store)
    rests = Rests(machine.steps, store)
    rests.lower_all()
    return Lanes(machine, store, rests.lows)


def size_of(mask):
    """The number of states in a set."""
    return len(states_of(mask))
