"""Learners, which find out what a teller tells for all rows from what it tells for some."""

from afterwise.checks import check_asks, check_many
from afterwise.errors import BadAmount, NothingWanted
from afterwise.forms import is_integer
from afterwise.kinds import follow
from afterwise.machines import Machine
from afterwise.shortrows import number_of_rows, short_row


class Learner:
    """Learns a teller with at most the many kinds: wants to know what it tells for one row after another."""

    def __init__(self, asks, many):
        check_asks(asks)
        check_many(many)
        self.asks = asks
        self.many = many
        # What has been told for each row, in the order in which it was.
        self.amounts = {}
        # Rows that lead to unlike kinds, and rows that part these, the empty one among them.
        self.heads = [""]
        self.tails = [""]
        # The steps between the kinds of the heads, None as long as they are not known.
        self.steps = None
        # How many rows have been compared with what these steps tell.
        self.compared = 0
        # A row for which they tell something else, and two places of it: what is told parts between them.
        self.wrong = None
        self.next_row = None
        self.machine = None
        self.go_on()

    @property
    def wanted(self):
        """The row that it wants to know of now, None at its end."""
        return self.next_row

    @property
    def asked(self):
        """The rows that it was told of, in this order."""
        return tuple(self.amounts)

    @property
    def learnt(self):
        """The least machine that it has found, None before its end."""
        return self.machine

    def tell(self, amount):
        """Tells what the teller tells for the row that is wanted."""
        if not is_integer(amount):
            raise BadAmount(amount)
        if self.next_row is None:
            raise NothingWanted()
        self.amounts[self.next_row] = amount
        self.go_on()

    def go_on(self):
        """Works with what has been told until a row is wanted or the end has come."""
        self.next_row = None
        while self.next_row is None and self.machine is None:
            if self.steps is None:
                self.find_steps()
            elif self.wrong is None:
                self.compare()
            else:
                self.find_tail()

    def find_steps(self):
        """Finds the steps between the kinds of the heads, or one more head."""
        for row in [lead + tail for lead in self.leads() for tail in self.tails]:
            if row not in self.amounts:
                self.next_row = row
                return
        numbers = {self.sign(head): number for number, head in enumerate(self.heads)}
        new = [row for row in self.leads() if self.sign(row) not in numbers]
        if new and len(self.heads) < self.many:
            self.heads.append(new[0])
            return
        self.steps = tuple([tuple([self.step(head, ask, numbers) for ask in self.asks]) for head in self.heads])
        self.compared = 0
        if new:
            # There are more than the many kinds, so what was told is true of no teller, and any machine will do.
            self.finish()

    def leads(self):
        """The heads, each without and with an ask behind it."""
        return [head + ask for head in self.heads for ask in ["", *self.asks]]

    def sign(self, row):
        """By what the kind to which a row leads is known: the gains of the tails behind it."""
        return tuple([self.amounts[row + tail] - self.amounts[row] for tail in self.tails])

    def step(self, head, ask, numbers):
        """The step of an ask from the kind of a head, when the numbers of the kinds are told by their signs."""
        return numbers.get(self.sign(head + ask), 0), self.amounts[head + ask] - self.amounts[head]

    def compare(self):
        """Compares what was told with what the steps tell, for rows that show all kinds that can be hidden."""
        ends = [(lead, tail) for lead in self.leads() for tail in self.tails]
        most = len(ends) * number_of_rows(self.asks, self.many - len(self.heads))
        while self.compared < most:
            number, place = divmod(self.compared, len(ends))
            row = ends[place][0] + short_row(self.asks, number) + ends[place][1]
            if row not in self.amounts:
                self.next_row = row
                return
            if self.amounts[row] != self.amounts[""] + follow(self.asks, self.steps, 0, row)[1]:
                self.wrong = (row, 0, len(row))
                return
            self.compared += 1
        self.finish()

    def finish(self):
        """Comes to the end, with the machine that the steps make."""
        self.machine = Machine(self.asks, self.amounts[""], self.steps).least()

    def find_tail(self):
        """Finds a tail that parts the kinds of two rows which the steps lead to one; it is an end of the wrong row."""
        row, low, high = self.wrong
        if high - low == 1:
            self.tails.append(row[high:])
            self.steps = None
            self.wrong = None
            return
        middle = (low + high) // 2
        kind = follow(self.asks, self.steps, 0, row[:middle])[0]
        rest = self.heads[kind] + row[middle:]
        if rest not in self.amounts:
            self.next_row = rest
            return
        told = self.amounts[rest] - self.amounts[self.heads[kind]]
        if told == follow(self.asks, self.steps, kind, row[middle:])[1]:
            self.wrong = (row, low, middle)
        else:
            self.wrong = (row, middle, high)
