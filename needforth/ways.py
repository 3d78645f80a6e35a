"""What rows ask of each other directly and along ways and rings."""

from needforth.courses import greatest
from needforth.errors import Lacking, NoWay
from needforth.kinds import is_row
from needforth.tables import Table
from needforth.webs import check_closed


def check_row(web, row):
    """Raise the error that is due for a thing that is passed as a row of a web."""
    if not isinstance(row, str) or row not in web.names:
        raise Lacking(row)


def check_ends(web, row, other):
    """Raise the error that is due for a row, or for another row or given, that is not there."""
    check_row(web, row)
    if other not in web:
        raise Lacking(other)


def asked(web, row, other):
    """What a row of a closed web asks of another row or given directly."""
    maker, sources = web[row]
    found = Table((), (0,), 0)
    for inlet, source in enumerate(sources):
        if source == other:
            found = found & greatest(maker, inlet)
    return found


def direct(web, row, other):
    """The table of what a row asks of another row or given directly, on all courses."""
    check_closed(web)
    check_ends(web, row, other)
    return asked(web, row, other)


def sources_of(web, name):
    """The sources of a row, each once; a given has none."""
    if name in web.givens:
        return []
    _, sources = web[name]
    return sorted(set(sources))


def ways_from(web, row):
    """All ways from a row, ascending."""
    found = []
    pending = [(row,)]
    while pending:
        way = pending.pop()
        found.append(way)
        # the next way to be taken is the last one that waits
        following = [way + (name,) for name in sources_of(web, way[-1]) if name not in way]
        pending.extend(following[::-1])
    return found


def ways(web, row, other):
    """The ways from a row to another row or given, ascending."""
    check_ends(web, row, other)
    return tuple([way for way in ways_from(web, row) if way[-1] == other])


def rings(web, row):
    """The rings at a row, ascending."""
    check_row(web, row)
    return tuple([way for way in ways_from(web, row) if row in sources_of(web, way[-1])])


def is_way(web, thing):
    """Whether a thing is a way of a web."""
    if not is_row(thing) or not thing or not all([name in web for name in thing]):
        return False
    if thing[0] in web.givens or len(set(thing)) < len(thing):
        return False
    return all([name in sources_of(web, ahead) for ahead, name in zip(thing, thing[1:])])


def table_along(web, names):
    """The product of what is asked along names each of which is a source of the one ahead of it."""
    found = Table.shift(0)
    for name, source in zip(names, names[1:]):
        found = asked(web, name, source) * found
    return found


def way_table(web, way):
    """The table of a way."""
    check_closed(web)
    if not is_way(web, way):
        raise NoWay(way)
    return table_along(web, way)


def ring_table(web, ring):
    """The table of a ring, that of the way back to its first name."""
    check_closed(web)
    if not is_way(web, ring) or ring[0] not in sources_of(web, ring[-1]):
        raise NoWay(ring)
    return table_along(web, tuple(ring) + (ring[0],))
