"""The columns of a teller that is a hindsight, and its views."""

from afterwise.errors import BadView
from afterwise.forms import are_integers
from afterwise.machines import least_machine
from afterwise.spans import closed, spanned_views, told_columns


def columns(teller):
    """All columns, ascending."""
    return told_columns(teller, least_machine(teller))


def closure(teller, view):
    """The closure of a view."""
    machine = least_machine(teller)
    if not are_integers(view, len(machine)):
        raise BadView(view)
    return closed(told_columns(teller, machine), view)


def views(teller):
    """All closed views whose least number is 0, ascending."""
    return spanned_views(told_columns(teller, least_machine(teller)))
