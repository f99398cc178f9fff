"""The kinds of a machine, told by its steps alone: where rows lead, and which kinds are alike."""


def least_rows(asks, steps):
    """The least row that leads from the kind 0 to each kind, None where no row does."""
    rows = [None] * len(steps)
    rows[0] = ""
    found = [0]
    at = 0
    while at < len(found):
        kind = found[at]
        for ask, (then, _) in zip(asks, steps[kind]):
            if rows[then] is None:
                rows[then] = rows[kind] + ask
                found.append(then)
        at += 1
    return tuple(rows)


def follow(asks, steps, kind, row):
    """The kind to which a row leads from a kind, and the gain of the row from there."""
    numbers = {ask: number for number, ask in enumerate(asks)}
    gain = 0
    for ask in row:
        kind, add = steps[kind][numbers[ask]]
        gain = gain + add
    return kind, gain


def least_steps(steps):
    """The steps of the least machine that has the same gain for every row."""
    classes = alike_classes(steps)
    numbers = {classes[0]: 0}
    kinds = [0]
    least = []
    while len(least) < len(kinds):
        item = []
        for then, add in steps[kinds[len(least)]]:
            if classes[then] not in numbers:
                numbers[classes[then]] = len(kinds)
                kinds.append(then)
            item.append((numbers[classes[then]], add))
        least.append(tuple(item))
    return tuple(least)


def alike_classes(steps):
    """A number for each kind, the same one exactly for kinds that are alike."""
    groups = {}
    for kind, item in enumerate(steps):
        groups.setdefault(tuple([add for _, add in item]), []).append(kind)
    members = list(groups.values())
    classes = [0] * len(steps)
    for number, kinds in enumerate(members):
        for kind in kinds:
            classes[kind] = number
    sources = [[] for _ in steps]
    for kind, item in enumerate(steps):
        for then, _ in item:
            sources[then].append(kind)
    turned = list(range(len(steps)))
    while turned:
        # Only kinds with a step to a kind whose class has turned can part from their class.
        touched = sorted(set([kind for then in turned for kind in sources[then]]))
        turned = split(steps, classes, members, touched)
    return classes


def split(steps, classes, members, touched):
    """Parts the touched kinds of each class by the classes of their steps; the kinds that turned."""
    signs = {}
    for kind in touched:
        sign = (classes[kind], tuple([classes[then] for then, _ in steps[kind]]))
        signs.setdefault(sign, []).append(kind)
    parts = {}
    for (number, _), kinds in signs.items():
        parts.setdefault(number, []).append(kinds)
    turned = []
    for number, lists in parts.items():
        moved = {kind: True for kinds in lists for kind in kinds}
        rest = [kind for kind in members[number] if kind not in moved]
        apart = sorted(lists + [rest], key=len)
        # The greatest part keeps the number of the class, so that few kinds turn.
        members[number] = apart.pop()
        for part in apart:
            if part:
                members.append(part)
                turned.extend(part)
                for kind in part:
                    classes[kind] = len(members) - 1
    return turned


def parting(asks, steps, one, other):
    """The least row with unlike gains from two kinds, None if they are alike."""
    heads = list(range(len(steps)))
    queue = [(one, other, "")]
    at = 0
    while at < len(queue):
        one, other, row = queue[at]
        at += 1
        first, second = head_of(heads, one), head_of(heads, other)
        if first == second:
            # What would part these two, parts two kinds to which a lesser row has led.
            continue
        heads[first] = second
        for ask, (then, add), (other_then, other_add) in zip(asks, steps[one], steps[other]):
            if add != other_add:
                return row + ask
            queue.append((then, other_then, row + ask))
    return None


def head_of(heads, kind):
    """The head of the kinds that are joined with a kind."""
    while heads[kind] != kind:
        heads[kind] = heads[heads[kind]]
        kind = heads[kind]
    return kind
