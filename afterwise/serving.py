"""How the work of a store goes on from ask to ask."""


def lowered(numbers):
    """The numbers less the least of them, and this least one."""
    low = min(numbers)
    return tuple([number - low for number in numbers]), low


def raised(numbers, amount):
    """The numbers, each with the amount added."""
    return tuple([number + amount for number in numbers])


def numbered(things):
    """The things without duplicates, and for each of them its number among these."""
    numbers = {}
    places = [numbers.setdefault(thing, len(numbers)) for thing in things]
    return list(numbers), places


class Table:
    """The table of an ask, made ready to serve it behind many works."""

    def __init__(self, table):
        # Of states with like rows only the least work matters, and like columns have like sums.
        rows, self.groups = numbered(table)
        columns, self.places = numbered(list(zip(*rows)))
        self.columns = [(column, ranked(column)) for column in columns]

    def served(self, work):
        """The work behind the ask."""
        least = least_of_groups(work, self.groups)
        low = min(least)
        sums = [least_sum(least, low, column, ranks) for column, ranks in self.columns]
        return [sums[place] for place in self.places]

    def sources(self, work):
        """For each unlike column the groups of states from which the work behind the ask comes."""
        least = least_of_groups(work, self.groups)
        low = min(least)
        return [least_places(least, low, column, ranks) for column, ranks in self.columns]

    def counted(self, work, counts, sources):
        """For each state the sum of the counts of those states from which the work behind the ask comes."""
        least = least_of_groups(work, self.groups)
        ways = [0] * len(least)
        for group, number, count in zip(self.groups, work, counts):
            if number == least[group]:
                ways[group] = ways[group] + count
        sums = [sum([ways[group] for group in groups]) for groups in sources]
        return [sums[place] for place in self.places]


def ranked(column):
    """The places of a column, those of its lesser prices first."""
    return sorted(range(len(column)), key=lambda place: column[place])


def least_of_groups(work, groups):
    """The least work in each group, when the groups of the states are told."""
    least = {}
    for group, number in zip(groups, work):
        if group not in least or number < least[group]:
            least[group] = number
    return list(least.values())


def least_sum(work, low, column, ranks):
    """The least sum of a work and the price beside it; low is the least work."""
    best = work[ranks[0]] + column[ranks[0]]
    for place in ranks:
        price = column[place]
        if price + low >= best:
            break
        if price + work[place] < best:
            best = price + work[place]
    return best


def least_places(work, low, column, ranks):
    """The places at which the sum of the work and the price is the least one."""
    best = least_sum(work, low, column, ranks)
    places = []
    for place in ranks:
        if column[place] + low > best:
            break
        if column[place] + work[place] == best:
            places.append(place)
    return places


class Serving:
    """Serves rows with a store; what comes behind a standing and an ask is worked out once."""

    def __init__(self, store):
        self.store = store
        self.tables = {}
        self.known_steps = {}
        self.known_sources = {}

    def start(self):
        """The standing behind the empty row, and the least number of the work."""
        return lowered(self.store.begins)

    def step(self, standing, ask):
        """The standing behind a standing and an ask, and what the least work grows by."""
        key = (ask, standing)
        if key not in self.known_steps:
            self.known_steps[key] = lowered(self.table_of(ask).served(standing))
        return self.known_steps[key]

    def counted(self, standing, ask, counts):
        """For each state the number of courses that pay its work behind the ask, from the numbers ahead of it."""
        table = self.table_of(ask)
        key = (ask, standing)
        if key not in self.known_sources:
            self.known_sources[key] = table.sources(standing)
        return table.counted(standing, counts, self.known_sources[key])

    def table_of(self, ask):
        """The table of the ask, made ready when it is needed first."""
        if ask not in self.tables:
            self.tables[ask] = Table(self.store.costs[self.store.asks.find(ask)])
        return self.tables[ask]

    def along(self, row):
        """The standing and the least number of the work behind each beginning of the row."""
        standing, low = self.start()
        found = [(standing, low)]
        for ask in row:
            standing, add = self.step(standing, ask)
            low = low + add
            found.append((standing, low))
        return found
