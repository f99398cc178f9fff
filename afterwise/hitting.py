"""The fewest things that meet each of some sets; sets are numbers, with a bit for each thing."""


class Hitting:
    """Sets that come one after the other, and the fewest things that meet all of them."""

    def __init__(self, sets):
        self.sets = smallest(sorted(set(sets)))
        # So many things are needed at least, and the least ones that were found last.
        self.size = 0
        self.chosen = []

    def include(self, things):
        """Adds a set that is not empty."""
        self.sets = smallest([*self.sets, things])

    def some(self):
        """Fewest things that meet all sets, as a set."""
        found = hitting_of(self.sets, self.size)
        while found is None:
            self.size += 1
            found = hitting_of(self.sets, self.size)
        return found

    def least(self):
        """The fewest things that meet all sets, ascending; of several the least as Python compares lists."""
        self.some()
        if len(self.chosen) != self.size:
            self.chosen = [0] * self.size
        chosen = []
        left = self.sets
        # With more sets no lesser things than before can do, so the search goes on from those.
        start = self.chosen
        for size in range(self.size - 1, -1, -1):
            # The least thing that can be taken is taken; those ahead of it are not, so they are left out of the sets.
            thing = start[len(chosen)] if start else 0
            behind = without(left, thing)
            while behind is None or hitting_of(behind, size) is None:
                thing += 1
                behind = without(left, thing)
            if start and thing > start[len(chosen)]:
                start = []
            chosen.append(thing)
            left = behind
        self.chosen = chosen
        return chosen


def without(sets, thing):
    """The sets that a thing does not meet, without the things up to it; None if one is empty, or all are left."""
    found = [(things >> (thing + 1)) << (thing + 1) for things in sets if not things & (1 << thing)]
    if 0 in found or len(found) == len(sets):
        return None
    return smallest(found)


def smallest(sets):
    """The sets without those that have all things of another one, those with few things first."""
    found = []
    for things in sorted(sets, key=count_of):
        if not [less for less in found if less & things == less]:
            found.append(things)
    return found


def count_of(things):
    """The number of things in a set."""
    return f"{things:b}".count("1")


def hitting_of(sets, size):
    """A set of at most so many things that meets all sets, None if there is none; small sets come first."""
    if not sets:
        return 0
    if size == 1:
        return common_thing(sets)
    if size < 1 or not may_do(sets, size):
        return None
    tries = []
    things = sets[0]
    while things:
        thing = things & -things
        things = things & (things - 1)
        left = [other for other in sets if not other & thing]
        tries.append((len(left), thing, left))
    barred = 0
    # Things that meet many sets are tried first.
    for _, thing, left in sorted(tries):
        # What comes behind can do without the things that were tried ahead of this one.
        found = [other & ~barred for other in left]
        if 0 not in found:
            more = hitting_of(found, size - 1)
            if more is not None:
                return more | thing
        barred = barred | thing
    return None


def common_thing(sets):
    """The least thing that meets all sets, as a set; None if there is none."""
    common = sets[0]
    for things in sets:
        common = common & things
    return common & -common if common else None


def may_do(sets, size):
    """Whether no more than so many sets can be found of which no two have a thing in common."""
    seen = 0
    for things in sets:
        if not things & seen:
            if size == 0:
                return False
            size -= 1
            seen = seen | things
    return True
