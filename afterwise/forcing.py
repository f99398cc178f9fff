"""What whoever chooses the asks can force a hand to pay from each moment on."""

from heapq import heappop, heappush

# About so many rounds over all moments are gone before other means are tried, more only if there are many moments.
ROUNDS = 10
MOMENTS_FOR_A_ROUND = 20


class Forcing:
    """For each moment the most that surely comes together, tolls and the close, within some number of asks.

    The asks are chosen to make it great, the states to make it small. Each round lets there be one ask more.
    """

    def __init__(self, moments):
        self.moments = moments
        self.now = [list(close) for close in moments.closes]
        # The ask by which each number was raised last, None if the row ends there.
        self.chosen = [[None] * len(close) for close in moments.closes]
        self.turned = {number: True for number in range(len(self.now))}
        self.rounds = 0
        # For each stage the rounds in which its numbers were raised, with the numbers and the asks since then.
        self.layers = [[(0, numbers, asks)] for numbers, asks in zip(self.now, self.chosen)]

    def apart(self):
        """A copy that goes its own way from now on."""
        other = Forcing(self.moments)
        other.now = list(self.now)
        other.chosen = list(self.chosen)
        other.turned = dict(self.turned)
        return other

    def go_on(self):
        """Lets there be one ask more; tells how many numbers were worked out."""
        found = {}
        sums = {}
        for then in self.turned:
            for number, ask, prices, add in self.moments.origins[then]:
                if (then, prices) not in sums:
                    sums[(then, prices)] = self.moments.tables[prices].served(self.now[then])
                if number not in found:
                    found[number] = (list(self.now[number]), list(self.chosen[number]))
                raise_numbers(found[number][0], found[number][1], sums[(then, prices)], add, ask)
        self.rounds += 1
        self.turned = {}
        for number, (numbers, asks) in found.items():
            if numbers != self.now[number]:
                self.turned[number] = True
                self.now[number] = numbers
                self.chosen[number] = asks
                self.layers[number].append((self.rounds, numbers, asks))
        return sum([len(numbers) for numbers in sums.values()])

    def go_far(self):
        """Goes on until nothing is raised or much has been worked out; whether something was raised at last."""
        moments = sum([len(numbers) for numbers in self.now])
        # Few moments take few rounds: the other means come to an end the sooner, the fewer there are.
        most = moments * max(ROUNDS, moments // MOMENTS_FOR_A_ROUND)
        done = 0
        while self.turned and done < most:
            done = done + self.go_on()
        return len(self.turned) > 0

    def endless_moments(self):
        """The moments from which the chosen asks force more and more without end; none if all comes to an end.

        Moments are told by the numbers of their stages and states.
        """
        while self.turned:
            more = self.forced_beyond()
            left = [
                (number, state) for number, numbers in enumerate(self.now) for state in range(len(numbers))
                if (number, state) not in more
            ]
            if left:
                return left
            for number, numbers in enumerate(list(self.now)):
                raised = [here + more[(number, state)] for state, here in enumerate(numbers)]
                if raised != numbers:
                    self.now[number] = raised
                    self.turned[number] = True
            self.go_far()
        return []

    def forced_beyond(self):
        """For each moment what the chosen asks force beyond its number, if choices can come to an end of the row.

        No step along the chosen asks is below the numbers, and no way round is without a toll above 0: a number was
        always raised by numbers that had been raised before it.
        """
        into = [[] for _ in self.now]
        queue = []
        for number, asks in enumerate(self.chosen):
            for state, ask in enumerate(asks):
                if ask is None:
                    heappush(queue, (0, number, state))
                else:
                    then, tolls = self.moments.tolls(number, state, ask)
                    into[then].append((number, state, tolls))
        best = {}
        more = {}
        while queue:
            beyond, then, other = heappop(queue)
            if (then, other) in more:
                continue
            more[(then, other)] = beyond
            base = beyond + self.now[then][other]
            for number, state, tolls in into[then]:
                there = base + tolls[other] - self.now[number][state]
                if (number, state) not in best or there < best[(number, state)]:
                    best[(number, state)] = there
                    heappush(queue, (there, number, state))
        return more


def raise_numbers(numbers, asks, sums, add, ask):
    """Raises numbers to what an ask forces, when the sums of prices and next numbers are told."""
    for state, total in enumerate(sums):
        if total - add > numbers[state]:
            numbers[state] = total - add
            asks[state] = ask
