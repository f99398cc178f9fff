"""Climbs, which show that no hand has a bounded rest."""


def climb_to(forcing, endless):
    """The number and the climb from all first moments, when moments are told from which more is forced without end."""
    moments = forcing.moments
    ways, asks = stages_ahead(moments, forcing.chosen, endless)
    inner = moments_behind(moments, forcing.chosen, ways[-1])
    number = len(inner)
    depths = even_depths(forcing, inner)
    # Where a toll brings nothing beyond the numbers, the depths make up for the 1 that is asked of each step.
    worths = {key: number * forcing.now[key[0]][key[1]] - depths[key] for key in inner}
    climb = [(key, forcing.chosen[key[0]][key[1]]) for key in inner]
    for stage, ask in zip(ways[-2::-1], asks[::-1]):
        for state in range(len(forcing.now[stage])):
            then, tolls = moments.tolls(stage, state, ask)
            least = min([number * toll + worths[(then, other)] for other, toll in enumerate(tolls)])
            worths[(stage, state)] = least - 1
            climb.append(((stage, state), ask))
    triples = [(moments.moment(key[0], key[1]), worths[key], moments.store.asks[ask]) for key, ask in climb]
    return number, tuple(sorted(triples))


def stages_ahead(moments, chosen, endless):
    """The stages on a shortest way from the first one to a stage all of whose moments are endless, and the asks."""
    # Chosen asks lead from endless moments to endless ones, whatever state is chosen.
    goals = {moments.moves[number][chosen[number][state]][0]: True for number, state in endless}
    before = {0: None}
    queue = [0]
    at = 0
    while queue[at] not in goals:
        for ask, move in enumerate(moments.moves[queue[at]]):
            if move is not None and move[0] not in before:
                before[move[0]] = (queue[at], ask)
                queue.append(move[0])
        at += 1
    ways, asks = [queue[at]], []
    while before[ways[-1]] is not None:
        stage, ask = before[ways[-1]]
        ways.append(stage)
        asks.append(ask)
    return ways[::-1], asks[::-1]


def moments_behind(moments, chosen, stage):
    """The moments of a stage and of all stages to which the chosen asks lead from them."""
    stages = [stage]
    seen = {stage: True}
    found = []
    at = 0
    while at < len(stages):
        for state, ask in enumerate(chosen[stages[at]]):
            found.append((stages[at], state))
            then = moments.moves[stages[at]][ask][0]
            if then not in seen:
                seen[then] = True
                stages.append(then)
        at += 1
    return found


def even_depths(forcing, inner):
    """For each moment the greatest number of steps, one behind the other, that bring nothing beyond the numbers."""
    ahead = {key: [] for key in inner}
    left = {}
    for number, state in inner:
        then, tolls = forcing.moments.tolls(number, state, forcing.chosen[number][state])
        here = forcing.now[number][state]
        even = [other for other, toll in enumerate(tolls) if toll + forcing.now[then][other] == here]
        left[(number, state)] = len(even)
        for other in even:
            ahead[(then, other)].append((number, state))
    depths = {key: 0 for key in inner}
    queue = [key for key in inner if left[key] == 0]
    at = 0
    while at < len(queue):
        key = queue[at]
        at += 1
        for other in ahead[key]:
            depths[other] = max(depths[other], depths[key] + 1)
            left[other] -= 1
            if left[other] == 0:
                queue.append(other)
    return depths
