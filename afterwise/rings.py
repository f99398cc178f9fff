"""Ways from point to point: the rings that choices go round, and the greatest gains of ways."""


def ring_of(choices):
    """The pairs and asks of a ring along the choices, None if there is none."""
    seen = {}
    for number, start in enumerate(choices):
        pair = start
        while pair in choices and pair not in seen:
            seen[pair] = number
            pair = choices[pair][0]
        if pair in choices and seen[pair] == number:
            return ring_from(choices, pair)
    return None


def ring_from(choices, start):
    """The steps, pairs of a pair and an ask, of the ring on which a pair stands."""
    steps = []
    pair = start
    while not steps or pair != start:
        then, ask = choices[pair]
        steps.append((pair, ask))
        pair = then
    return steps


def row_to(before, pair):
    """The row to a pair, when for each pair the one ahead of it and the ask between them are told."""
    row = []
    while before[pair] is not None:
        pair, ask = before[pair]
        row.append(ask)
    return "".join(row[::-1])


def greatest_gains(moves):
    """The greatest gain of any way from each point, the empty way among them; or a ring with a gain above 0.

    The moves of each point are triples of an ask, the next point and a gain. One of the two is None: the ring,
    pairs of a point and an ask, if there is none; otherwise the gains, which then have no greatest.
    """
    gains = [0] * len(moves)
    choices = {}
    # Points that were found last mostly stand nearest to the ends of ways, so they are raised first.
    order = list(range(len(moves)))[::-1]
    while raise_gains(moves, gains, choices, order):
        ring = ring_of(choices)
        if ring is not None:
            return None, ring
    return gains, None


def raise_gains(moves, gains, choices, order):
    """Raises the gains of the points, each once, to what their moves allow; whether one was raised."""
    turned = False
    for point in order:
        best = gains[point]
        for ask, then, gain in moves[point]:
            if gain + gains[then] > best:
                best = gain + gains[then]
                choices[point] = (then, ask)
        if best > gains[point]:
            gains[point] = best
            turned = True
    return turned


def least_way(moves, gains):
    """The least row from the point 0 that has the greatest gain, when the greatest gains are told."""
    before = {0: None}
    queue = [0]
    at = 0
    while gains[queue[at]] > 0:
        point = queue[at]
        for ask, then, gain in moves[point]:
            if then not in before and gain + gains[then] == gains[point]:
                before[then] = (point, ask)
                queue.append(then)
        at += 1
    return row_to(before, queue[at])
