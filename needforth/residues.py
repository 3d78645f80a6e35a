"""The two residues of tables."""

from needforth.joining import over_form, under_form
from needforth.tables import Table


def under(first, second):
    """The greatest table that can stand behind the first one without going above the second one."""
    head, loop, rise = under_form(first, second)
    return Table(head, loop, rise)


def over(first, second):
    """The greatest table that can stand ahead of the second one without going above the first one."""
    head, loop, rise = over_form(first, second)
    return Table(head, loop, rise)
