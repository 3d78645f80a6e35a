"""What a maker needs on all its courses, courses on which it needs the most or the least, and makers for told needs."""

from math import lcm

from needforth.errors import BadCount, BadTables, TooMany
from needforth.kinds import is_count, is_row
from needforth.makers import MOST_DEEDS, MOST_INLETS, Maker, check_inlet
from needforth.rounding import Outlook
from needforth.tables import Table

LAST_PIECE = 2000


def least(maker, inlet):
    """The table of the least values of the needs at an inlet on all courses."""
    check_inlet(maker, inlet)
    head, loop, rise = Outlook(maker, inlet, False).form()
    return Table(head, loop, rise)


def greatest(maker, inlet):
    """The table of the greatest values of the needs at an inlet on all courses."""
    check_inlet(maker, inlet)
    head, loop, rise = Outlook(maker, inlet, True).form()
    return Table(head, loop, rise)


def course_of(maker, inlet, piece, *, most=True):
    """A course on which the need at a piece is the greatest one, or the least one."""
    check_inlet(maker, inlet)
    if not is_count(piece) or not 1 <= piece <= LAST_PIECE:
        raise BadCount(piece)
    return Outlook(maker, inlet, most).course(piece)


def check_needs(tables):
    """Raise the error that is due for a thing that is passed as the needs of a maker."""
    if not is_row(tables) or not 1 <= len(tables) <= MOST_INLETS:
        raise BadTables(-1)
    for number, table in enumerate(tables):
        if not isinstance(table, Table):
            raise BadTables(number)
    for table in tables[1:]:
        if bool(table.loop) != bool(tables[0].loop):
            raise BadTables(-1)
        if not table.loop and len(table.head) != len(tables[0].head):
            raise BadTables(-1)


def shared_lap(tables):
    """How many entries the loops of all tables have until they come round together."""
    lap = len(tables[0].loop)
    for table in tables[1:]:
        lap = lcm(lap, len(table.loop))
    return lap


def steps_to(tables, place):
    """The deeds that take at each inlet what its table tells for a place beyond the place ahead."""
    found = []
    for inlet, table in enumerate(tables):
        found.extend([inlet] * (table(place) - table(place - 1)))
    return found


def maker_of(tables):
    """A maker with one way whose need at each inlet is the table told for it."""
    check_needs(tables)
    lead = max([len(table.head) for table in tables])
    lap = shared_lap(tables)
    if lead + 2 * lap + sum([table(lead + 2 * lap) for table in tables]) > MOST_DEEDS:
        raise TooMany("deed")
    begin = []
    for place in range(1, lead + 1):
        begin.extend(steps_to(tables, place) + ["give"])
    if lap == 0:
        # a way that takes without giving: the pieces behind the heads never come
        return Maker(len(tables), begin, ((0,),))
    begin.extend(steps_to(tables, lead + 1))
    way = []
    for place in range(lead + 1, lead + lap + 1):
        way.extend(["give"] + steps_to(tables, place + 1))
    return Maker(len(tables), begin, (way,))
