"""Rows by which a teller is told from all others that have not too many kinds."""

from afterwise.checks import check_many
from afterwise.errors import TooFew, TooMany
from afterwise.kinds import follow, parting
from afterwise.machines import least_machine
from afterwise.plain import ordered
from afterwise.shortrows import number_of_rows, short_row

MOST_ROWS = 20000


def telling_rows(teller, many):
    """Rows for which no other teller with at most the many kinds tells the same."""
    check_many(many)
    machine = least_machine(teller)
    count, asks = len(machine), machine.asks
    if count > many:
        raise TooFew(count)
    middles = number_of_rows(asks, many - count)
    if count * (len(asks) + 1) * middles * count > MOST_ROWS:
        raise TooMany("row")
    # To each kind leads a row, and behind it, with or without an ask, come all rows as long as that many kinds more
    # can stay hidden; then comes what parts the kinds. Who tells the same for all of these has the same steps.
    heads = [row + ask for row in machine.rows for ask in ["", *asks]]
    tails = parting_rows(machine)
    between = [short_row(asks, number) for number in range(middles)]
    return ordered(asks, [head + middle + tail for head in heads for middle in between for tail in tails])


def parting_rows(machine):
    """At most as many rows as there are kinds, the empty one among them, that part all kinds of a least machine."""
    rows = [""]
    pair = unparted(machine, rows)
    while pair is not None:
        rows.append(parting(machine.asks, machine.steps, pair[0], pair[1]))
        pair = unparted(machine, rows)
    return rows


def unparted(machine, rows):
    """Two kinds from which all rows have the same gains, None if there are none."""
    kinds = {}
    for kind in range(len(machine)):
        gains = tuple([follow(machine.asks, machine.steps, kind, row)[1] for row in rows])
        if gains in kinds:
            return kinds[gains], kind
        kinds[gains] = kind
    return None
