"""The pairs of kinds of a machine: how far the gain of a row from the one can be above that from the other."""

from afterwise.rings import ring_of, row_to


class Pairs:
    """The pairs of kinds, the pair of one and other by the number one * count + other, and their distances."""

    def __init__(self, steps):
        self.count = len(steps)
        asks = range(len(steps[0]))
        # For each ask: where it leads the one kind, already times the count, the other one, and the adds.
        self.moves = [
            (
                [item[ask][0] * self.count for item in steps],
                [item[ask][0] for item in steps],
                [item[ask][1] for item in steps],
            )
            for ask in asks
        ]
        # The distance of a pair: -1 as long as it is not settled, None if it is not bounded.
        self.far = [-1] * self.count ** 2
        # The next ask to look at, and behind the last one a number that says that the pair has been left.
        self.turns = [0] * self.count ** 2
        self.lows = [0] * self.count ** 2
        self.sums = [0] * self.count ** 2
        for pair in range(0, self.count ** 2, self.count + 1):
            self.far[pair] = 0
            self.leave(pair)

    def leave(self, pair):
        """Marks a settled pair, so that it never counts as one that can lead back."""
        self.turns[pair] = len(self.moves) + 1
        self.lows[pair] = self.count ** 2

    def follows(self, pair):
        """For each ask the pair to which it leads, and the gain from the one less that from the other."""
        one, other = divmod(pair, self.count)
        return [(ups[one] + tos[other], adds[one] - adds[other]) for ups, tos, adds in self.moves]

    def distances(self):
        """For each kind, the one, and each kind, the other, the distance."""
        kinds = range(self.count)
        return tuple([tuple([self.distance(one, other) for other in kinds]) for one in kinds])

    def distance(self, one, other):
        """The distance from the one kind to the other, None if it is not bounded."""
        pair = one * self.count + other
        if self.turns[pair] == 0:
            self.explore(pair, False)
        return self.far[pair]

    def first_endless(self):
        """The first pair of kinds whose distance is not bounded, None if there is none."""
        for pair in range(self.count ** 2):
            if self.turns[pair] == 0:
                self.explore(pair, True)
            if self.far[pair] is None:
                return divmod(pair, self.count)
        return None

    def farthest_row(self, asks, one, other):
        """The least row that has the distance of two kinds, None if it is not bounded."""
        if self.distance(one, other) is None:
            return None
        queue = [one * self.count + other]
        before = {queue[0]: None}
        at = 0
        while self.far[queue[at]] > 0:
            pair = queue[at]
            for ask, (then, gain) in zip(asks, self.follows(pair)):
                if then not in before and gain + self.far[then] == self.far[pair]:
                    before[then] = (pair, ask)
                    queue.append(then)
            at += 1
        return row_to(before, queue[at])

    def endless_rows(self, asks, one, other):
        """A stem and a ring that show that the distance of two kinds is not bounded."""
        size = 1
        ring = None
        while ring is None:
            size = 2 * size
            before = self.near(asks, one * self.count + other, size)
            ring = self.raised_ring({pair: 0 for pair in before})
        return row_to(before, ring[0][0]), "".join([asks[ask] for _, ask in ring])

    def near(self, asks, root, size):
        """The pairs nearest to a pair, about as many as the size, each with the step by which it is found."""
        queue = [root]
        before = {root: None}
        at = 0
        while at < len(queue) and len(queue) < size:
            pair = queue[at]
            for ask, (then, _) in zip(asks, self.follows(pair)):
                if then not in before:
                    before[then] = (pair, ask)
                    queue.append(then)
            at += 1
        return before

    def explore(self, root, hasty):
        """Settles a pair and all pairs behind it; if hasty, it stops as soon as the pair has no bounded distance."""
        turns, lows, sums, last = self.turns, self.lows, self.sums, len(self.moves)
        path, births, held = [root], [0], [root]
        lows[root] = 0
        while path:
            pair = path[-1]
            ask = turns[pair]
            if ask == last:
                self.close(path, births, held)
                continue
            turns[pair] = ask + 1
            ups, tos, adds = self.moves[ask]
            one, other = divmod(pair, self.count)
            then = ups[one] + tos[other]
            there = sums[pair] + adds[one] - adds[other]
            if turns[then] == 0:
                lows[then] = len(held)
                sums[then] = there
                path.append(then)
                births.append(len(held))
                held.append(then)
                continue
            if lows[then] < lows[pair]:
                lows[pair] = lows[then]
            if turns[then] <= last and there > sums[then]:
                # The path comes back to this pair with a gain, so it can do so again and again.
                self.far[then] = None
                if hasty:
                    self.far[root] = None
                    return

    def close(self, path, births, held):
        """Leaves the last pair of the path; if no pair ahead can be reached, settles all held since then."""
        pair, birth = path.pop(), births.pop()
        self.turns[pair] = len(self.moves) + 1
        if self.lows[pair] == birth:
            self.settle(held[birth:])
            del held[birth:]
        if path and self.lows[pair] < self.lows[path[-1]]:
            self.lows[path[-1]] = self.lows[pair]

    def settle(self, members):
        """Settles pairs that all lead to one another, and besides only to settled ones."""
        far, sums = self.far, self.sums
        best = sums[members[0]]
        even = True
        endless = False
        for pair in members:
            here = sums[pair]
            one, other = divmod(pair, self.count)
            if here > best:
                best = here
            for ups, tos, adds in self.moves:
                then = ups[one] + tos[other]
                there = here + adds[one] - adds[other]
                if far[then] is None:
                    endless = True
                elif far[then] < 0:
                    even = even and there == sums[then]
                elif there + far[then] > best:
                    best = there + far[then]
        if endless:
            distances = [None] * len(members)
        elif even:
            # Whatever way leads from a pair to another gains the same, so all ways through the best one do.
            distances = [best - sums[pair] for pair in members]
        else:
            distances = self.relaxed(members)
        for pair, distance in zip(members, distances):
            far[pair] = distance
            self.leave(pair)

    def relaxed(self, members):
        """The distances of pairs as in settle, worked out by raising them until nothing is left to raise."""
        # The pairs that were found last stand nearest to the ends of rows, so they are raised first.
        worths = {pair: self.exit_of(pair) for pair in members[::-1]}
        if self.raised_ring(worths) is not None:
            return [None] * len(members)
        return [worths[pair] for pair in members]

    def exit_of(self, pair):
        """The greatest gain of the rows that are empty or lead at once to a settled pair."""
        settled = [gain + self.far[then] for then, gain in self.follows(pair) if self.far[then] >= 0]
        return max([0] + settled)

    def raised_ring(self, worths):
        """Raises the worths of pairs to what steps between them allow; a ring if this has no end, else None."""
        choices = {}
        turned = True
        while turned:
            turned = False
            for pair in list(worths):
                for ask, (then, gain) in enumerate(self.follows(pair)):
                    if then in worths and gain + worths[then] > worths[pair]:
                        worths[pair] = gain + worths[then]
                        choices[pair] = (then, ask)
                        turned = True
            ring = ring_of(choices)
            if ring is not None:
                return ring
        return None
