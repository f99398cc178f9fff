"""How what one machine tells stands to what another one tells, whatever the number of pairs of their kinds."""


def verdict_on(machine, other):
    """How the one machine stands to the other, over all rows; both are least machines."""
    if machine == other:
        return "same"
    if is_never_above(other, machine):
        return "never less"
    if is_never_above(machine, other):
        return "never more"
    return "neither"


def is_never_above(one, other):
    """Whether for no row the one machine tells more than the other."""
    count = len(other)
    # For each pair of kinds, one * count + other, the greatest difference of a row to it that has been found.
    best = {0: one.first - other.first}
    before = {}
    turned = [0]
    many = 0
    while turned:
        behind = {}
        for pair in turned:
            here = best[pair]
            first, second = divmod(pair, count)
            for (then, add), (other_then, other_add) in zip(one.steps[first], other.steps[second]):
                there = here + add - other_add
                to = then * count + other_then
                if to not in best or there > best[to]:
                    best[to] = there
                    before[to] = pair
                    behind[to] = True
        if max([best[pair] for pair in turned]) > 0:
            return False
        turned = list(behind)
        many = many + len(turned)
        if many > len(best):
            # As often as all pairs have been raised once, it is asked whether they go round, ever higher.
            many = 0
            if goes_round(before):
                return False
    return True


def goes_round(before):
    """Whether some pair comes back to itself along those ahead of it."""
    seen = {}
    for number, start in enumerate(before):
        pair = start
        while pair in before and pair not in seen:
            seen[pair] = number
            pair = before[pair]
        if pair in before and seen[pair] == number:
            return True
    return False
