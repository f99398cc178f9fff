"""Hands, which serve asks as they come, without knowing what comes."""

from afterwise.checks import check_asks, check_like_asks, check_row, check_state
from afterwise.errors import BadHand
from afterwise.forms import as_tuples, is_below, is_integer, is_tuple, is_tuple_of
from afterwise.machines import Machine

MOST_PLACES = 200


class Hand:
    """A hand with a state of a store for each of its places and moves between these; it begins at the place 0."""

    def __init__(self, asks, states, moves):
        check_asks(asks)
        if not is_tuple(states) or not is_tuple_of(moves, len(states)) or not 1 <= len(states) <= MOST_PLACES:
            raise BadHand(-1)
        for number, (state, item) in enumerate(zip(states, moves)):
            if not is_integer(state) or state < 0 or not are_places(item, len(asks), len(states)):
                raise BadHand(number)
        self.asks = asks
        self.states = tuple(states)
        self.moves = as_tuples(moves)

    def course(self, row):
        """The states of the places that the hand passes for the row."""
        check_row(self.asks, row)
        place = 0
        states = [self.states[place]]
        for ask in row:
            place = self.moves[place][self.asks.find(ask)]
            states.append(self.states[place])
        return tuple(states)

    def pays(self, store):
        """The machine that tells for each row what the store pays for the course of the hand."""
        check_like_asks(self, store)
        for state in self.states:
            check_state(len(store), state)
        steps = []
        for state, item in zip(self.states, self.moves):
            pairs = []
            for place, table in zip(item, store.costs):
                then = self.states[place]
                pairs.append((place, table[state][then] + store.ends[then] - store.ends[state]))
            steps.append(tuple(pairs))
        begun = self.states[0]
        return Machine(self.asks, store.begins[begun] + store.ends[begun], tuple(steps))

    def __len__(self):
        return len(self.states)

    def __eq__(self, other):
        return (
            isinstance(other, Hand)
            and self.asks == other.asks
            and self.states == other.states
            and self.moves == other.moves
        )


def are_places(thing, asks, places):
    """Whether a thing is a tuple of a place for each of as many asks."""
    return is_tuple_of(thing, asks) and all([is_below(place, places) for place in thing])
