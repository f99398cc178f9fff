"""The moments of hands that see some asks ahead, and the moves between them."""

from afterwise.errors import BadSight, TooMany
from afterwise.forms import is_below
from afterwise.gates import steps_of_gate
from afterwise.kinds import follow
from afterwise.machines import least_machine
from afterwise.serving import Table

MOST_SIGHT = 3
MOST_MOMENTS = 1000


def moments_of(store, sight, gate):
    """The moments for hands of a sight, with all errors of its arguments."""
    if not is_below(sight, MOST_SIGHT + 1):
        raise BadSight(sight)
    steps = steps_of_gate(store.asks, gate)
    return Moments(store, least_machine(store), sight, steps)


class Moments:
    """The moments that come up for hands of a sight, by stages: those of one stage differ in the state alone.

    A stage is a kind, the waiting asks and a place. It has a moment for each state if the hand has begun, which is so
    as soon as as many asks wait as it sees ahead; otherwise it has one moment. States of a stage are numbered from 0.
    """

    def __init__(self, store, machine, sight, gate):
        self.store = store
        self.machine = machine
        self.sight = sight
        self.gate = gate
        # The prices of moves, a row for each state: those of each ask, those to begin, and the one to wait.
        self.prices = [*store.costs, (store.begins,), ((0,),)]
        self.tables = [Table(list(zip(*rows))) for rows in self.prices]
        self.stages = [(0, "", 0)]
        # For each stage and ask the number of the next stage, the number of the prices, and what is taken off
        # them; None for an ask that cannot come.
        self.moves = []
        self.find_stages()
        self.closes = self.all_closes()
        # For each stage the moves that lead to it: the stage, the ask, and the rest as above.
        origins = [[] for _ in self.stages]
        for number, item in enumerate(self.moves):
            for ask, move in enumerate(item):
                if move is not None:
                    origins[move[0]].append((number, ask, move[1], move[2]))
        self.origins = origins

    def find_stages(self):
        """Finds all stages to which moves lead, and the moves."""
        numbers = {self.stages[0]: 0}
        many = self.size_of(self.stages[0])
        while len(self.moves) < len(self.stages):
            item = []
            for ask in range(len(self.store.asks)):
                move = self.move_from(self.stages[len(self.moves)], ask)
                if move is not None:
                    stage, prices, add = move
                    if stage not in numbers:
                        many = many + self.size_of(stage)
                        if many > MOST_MOMENTS:
                            raise TooMany("moment")
                        numbers[stage] = len(self.stages)
                        self.stages.append(stage)
                    move = (numbers[stage], prices, add)
                item.append(move)
            self.moves.append(item)

    def move_from(self, stage, ask):
        """The stage to which an ask leads, the number of the prices, and what is taken off; None if it cannot come."""
        kind, waiting, place = stage
        there = self.gate[place][ask]
        if there is None:
            return None
        row = waiting + self.store.asks[ask]
        if len(row) < self.sight:
            return (0, row, there), len(self.store.asks) + 1, 0
        if not self.is_begun(stage):
            return (0, row, there), len(self.store.asks), self.machine.first
        served = self.store.asks.find(row[0])
        then, add = self.machine.steps[kind][served]
        return (then, row[1:], there), served, add

    def is_begun(self, stage):
        """Whether the hand has begun at the moments of a stage."""
        return len(stage[1]) == self.sight

    def size_of(self, stage):
        """The number of moments of a stage."""
        return len(self.store) if self.is_begun(stage) else 1

    def all_closes(self):
        """For each stage the closes of its moments."""
        rests = {"": self.store.ends}
        return [self.closes_at(stage, rests) for stage in self.stages]

    def closes_at(self, stage, rests):
        """The closes of the moments of a stage; what rows cost is kept in rests."""
        if not self.is_begun(stage):
            return [0]
        gain = follow(self.store.asks, self.machine.steps, stage[0], stage[1])[1]
        return [rest - gain for rest in self.rests_of(stage[1], rests)]

    def rests_of(self, row, rests):
        """For each state the least that serving a row costs from there, the end price with it; kept in rests."""
        if row not in rests:
            table = self.tables[self.store.asks.find(row[0])]
            rests[row] = table.served(self.rests_of(row[1:], rests))
        return rests[row]

    def begin_tolls(self):
        """For each moment of the first stage the toll to which it has come."""
        if self.sight > 0:
            return [0]
        return [begin - self.machine.first for begin in self.store.begins]

    def moment(self, number, state):
        """The moment of a stage with a state."""
        kind, waiting, place = self.stages[number]
        return kind, self.choice(number, state), waiting, place

    def choice(self, number, state):
        """The choice that leads to a state of a stage: the state, or -1 if the hand has not begun there."""
        return state if self.is_begun(self.stages[number]) else -1

    def tolls(self, number, state, ask):
        """The number of the next stage, and the toll of the move to each of its states."""
        then, place, add = self.moves[number][ask]
        return then, [price - add for price in self.prices[place][state]]
