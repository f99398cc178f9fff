"""Moments as they are passed to judges: any of the right form, whether they come up or not."""

from afterwise.forms import is_below, is_integer, is_tuple_of


class Bench:
    """What is asked about moments that are passed; each is told by its stage and the number of its state there."""

    def __init__(self, moments):
        self.moments = moments
        self.store = moments.store
        self.known_closes = {}
        self.known_rests = {"": moments.store.ends}

    def key_of(self, thing):
        """The stage and the number of the state of a moment that is passed, None if it has another form."""
        if not is_tuple_of(thing, 4):
            return None
        kind, state, waiting, place = thing
        if not is_below(kind, len(self.moments.machine)) or not is_below(place, len(self.moments.gate)):
            return None
        if not isinstance(waiting, str) or len(waiting) > self.moments.sight:
            return None
        if not all([ask in self.store.asks for ask in waiting]):
            return None
        stage = (kind, waiting, place)
        number = self.number_of(stage, state)
        if number is None or not self.moments.is_begun(stage) and kind != 0:
            return None
        return stage, number

    def number_of(self, stage, choice):
        """The number of the state to which a choice leads in a stage, None if there is no such choice."""
        if self.moments.is_begun(stage):
            return choice if is_below(choice, len(self.store)) else None
        return 0 if is_integer(choice) and choice == -1 else None

    def close(self, key):
        """The close of a moment."""
        stage, number = key
        if stage not in self.known_closes:
            self.known_closes[stage] = self.moments.closes_at(stage, self.known_rests)
        return self.known_closes[stage][number]

    def firsts(self):
        """The first moments, each with the toll to which it has come."""
        return [((self.moments.stages[0], number), toll) for number, toll in enumerate(self.moments.begin_tolls())]

    def move(self, key, ask):
        """The stage to which an ask leads, and the prices and what is taken off them; None if it cannot come."""
        stage, number = key
        found = self.moments.move_from(stage, ask)
        if found is None:
            return None
        then, place, add = found
        return then, self.moments.prices[place][number], add

    def move_by_letter(self, key, letter):
        """The move for an ask that is passed; None for a thing that is no ask, too."""
        if not isinstance(letter, str) or len(letter) != 1 or letter not in self.store.asks:
            return None
        return self.move(key, self.store.asks.find(letter))
