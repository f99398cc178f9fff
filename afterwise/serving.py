"""How the work of a store goes on from ask to ask."""


# Of so few sums all are worked out; of more, no more than are needed to know the least one.
FEW_GROUPS = 8
# Works that are so many times nearer to one another than the prices do not help to find it.
NARROW = 4


def lowered(numbers):
    """The numbers less the least of them, and this least one."""
    low = min(numbers)
    return tuple([number - low for number in numbers]), low


def raised(numbers, amount):
    """The numbers, each with the amount added."""
    return tuple([number + amount for number in numbers])


def numbered(things):
    """The things without duplicates, and for each of them its number among these."""
    numbers = {}
    places = [numbers.setdefault(thing, len(numbers)) for thing in things]
    return list(numbers), places


class Table:
    """The table of an ask, made ready to serve it behind many works."""

    def __init__(self, table):
        # Of states with like rows only the least work matters, and like columns have like sums.
        rows, self.groups = numbered(table)
        columns, self.places = numbered(list(zip(*rows)))
        self.columns = [(column, ranked(column)) for column in columns]
        # In all columns the prices are as far apart as this.
        self.width = min([max(column) - min(column) for column in columns])

    def served(self, work):
        """The work behind the ask."""
        sums = self.least_sums(least_of_groups(work, self.groups))
        return [sums[place] for place in self.places]

    def sources(self, work):
        """For each unlike column the groups of states from which the work behind the ask comes."""
        least = least_of_groups(work, self.groups)
        order = ranked(least)
        works = [least[place] for place in order]
        return [
            least_places(least, order, works, column, ranks, best)
            for (column, ranks), best in zip(self.columns, self.least_sums(least))
        ]

    def least_sums(self, least):
        """For each unlike column the least sum of a price of it and the work beside it."""
        if len(least) <= FEW_GROUPS:
            return [min([price + number for price, number in zip(column, least)]) for column, _ in self.columns]
        order = ranked(least)
        works = [least[place] for place in order]
        if NARROW * (works[-1] - works[0]) < self.width:
            return [least_by_price(least, works[0], column, ranks) for column, ranks in self.columns]
        return [least_sum(least, order, works, column, ranks) for column, ranks in self.columns]

    def counted(self, work, counts, sources):
        """For each state the sum of the counts of those states from which the work behind the ask comes."""
        least = least_of_groups(work, self.groups)
        ways = [0] * len(least)
        for group, number, count in zip(self.groups, work, counts):
            if number == least[group]:
                ways[group] = ways[group] + count
        sums = [sum([ways[group] for group in groups]) for groups in sources]
        return [sums[place] for place in self.places]


def ranked(numbers):
    """The places of numbers, those of the lesser ones first."""
    return sorted(range(len(numbers)), key=lambda place: numbers[place])


def least_of_groups(work, groups):
    """The least work in each group, when the groups of the states are told."""
    least = {}
    for group, number in zip(groups, work):
        if group not in least or number < least[group]:
            least[group] = number
    return list(least.values())


def least_by_price(work, low, column, ranks):
    """The least sum of a work and the price beside it; low is the least work."""
    best = work[ranks[0]] + column[ranks[0]]
    for place in ranks:
        price = column[place]
        if price + low >= best:
            break
        if price + work[place] < best:
            best = price + work[place]
    return best


def least_sum(work, order, works, column, ranks):
    """The least sum of a work and the price beside it; the works come in their order, too, the least ones first."""
    best = work[ranks[0]] + column[ranks[0]]
    for place, other, number in zip(ranks, order, works):
        price = column[place]
        # What has not been looked at has at least this price and at least this work.
        if price + number >= best:
            break
        if price + work[place] < best:
            best = price + work[place]
        if number + column[other] < best:
            best = number + column[other]
    return best


def least_places(work, order, works, column, ranks, best):
    """The places at which the sum of the work and the price is the best one; the works come as for least_sum."""
    places = {}
    for place, other, number in zip(ranks, order, works):
        price = column[place]
        if price + number > best:
            break
        if price + work[place] == best:
            places[place] = True
        if number + column[other] == best:
            places[other] = True
    return list(places)


class Serving:
    """Serves rows with a store; what comes behind a standing and an ask is worked out once."""

    def __init__(self, store):
        self.store = store
        self.tables = {}
        self.known_steps = {}
        self.known_sources = {}

    def start(self):
        """The standing behind the empty row, and the least number of the work."""
        return lowered(self.store.begins)

    def step(self, standing, ask):
        """The standing behind a standing and an ask, and what the least work grows by."""
        key = (ask, standing)
        if key not in self.known_steps:
            self.known_steps[key] = lowered(self.table_of(ask).served(standing))
        return self.known_steps[key]

    def counted(self, standing, ask, counts):
        """For each state the number of courses that pay its work behind the ask, from the numbers ahead of it."""
        table = self.table_of(ask)
        key = (ask, standing)
        if key not in self.known_sources:
            self.known_sources[key] = table.sources(standing)
        return table.counted(standing, counts, self.known_sources[key])

    def table_of(self, ask):
        """The table of the ask, made ready when it is needed first."""
        if ask not in self.tables:
            self.tables[ask] = Table(self.store.costs[self.store.asks.find(ask)])
        return self.tables[ask]

    def along(self, row):
        """The standing and the least number of the work behind each beginning of the row."""
        standing, low = self.start()
        found = [(standing, low)]
        for ask in row:
            standing, add = self.step(standing, ask)
            low = low + add
            found.append((standing, low))
        return found
