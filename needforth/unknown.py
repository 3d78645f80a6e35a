"""What rows ask of each other whatever the unknown makers need, and whether they come for ever."""

from needforth.courses import greatest, maker_of
from needforth.errors import Lacking, NotShift, NoWay, TooMany
from needforth.everywhere import everywhere
from needforth.facts import check_facts
from needforth.linking import Links
from needforth.surely import surely
from needforth.tables import Table
from needforth.termforms import LONGEST_SHIFT, MOST_PARTS, parts_of
from needforth.terms import samples_in
from needforth.verdicts import Verdict
from needforth.ways import check_row, rings, ways, ways_from
from needforth.webs import inlets_of

MOST_SAMPLES = 11
STEP_BACK = ("shift", -1)


class Forever(Verdict):
    """Whether a row comes for ever whatever the unknown makers need; else a ring, and needs with which it does not."""

    def __init__(self, ring, tables, count):
        Verdict.__init__(self, ring is None)
        self.ring = ring
        self.tables = tables
        self.count = count


def shift_of(table):
    """The term of a table that is a shift, None if it is none that a term may have."""
    # every such shift has a value of 1 or more here
    place = LONGEST_SHIFT + 1
    value = table(place)
    if value is None or abs(value - place) > LONGEST_SHIFT or not table == Table.shift(value - place):
        return None
    return ("shift", value - place)


def names_of_inlets(unknown, inlets):
    """The names of the inlets of an unknown maker."""
    return [f"{unknown}{inlet}" for inlet in range(inlets)]


def terms_of_inlets(web):
    """For each row the terms of what is asked at its inlets, or the error that is due if they are not all shifts."""
    found = {}
    for row, maker, sources in web.rows:
        if isinstance(maker, str):
            found[row] = names_of_inlets(maker, len(sources))
        else:
            found[row] = [shift_of(greatest(maker, inlet)) for inlet in range(maker.inlets)]
        if None in found[row]:
            raise NotShift(row)
    return found


def both_of(terms):
    """The term of both of one or more terms."""
    found = terms[0]
    for term in terms[1:]:
        found = ("both", found, term)
    return found


def term_along(web, terms, names):
    """The term of what is asked along two or more names each of which is a source of the one ahead of it."""
    found = None
    for row, source in zip(names, names[1:]):
        _, sources = web[row]
        direct = both_of([term for term, name in zip(terms[row], sources) if name == source])
        found = direct if found is None else ("behind", direct, found)
    return found


def ask_term(web, row, other):
    """The term of what a row asks of another row or given, directly and through others."""
    terms = terms_of_inlets(web)
    check_row(web, row)
    if other not in web or other == row:
        raise Lacking(other)
    found = [term_along(web, terms, way) for way in ways(web, row, other)]
    if not found:
        raise NoWay(other)
    term = both_of(found)
    if parts_of(term) > MOST_PARTS:
        raise TooMany("part")
    return term


def rings_with_terms(web, terms, row):
    """The pairs of all rings at a row and their terms."""
    return tuple([(ring, term_along(web, terms, ring + ring[:1])) for ring in rings(web, row)])


def ring_terms(web, row):
    """The pairs of all rings at a row and their terms, ascending."""
    terms = terms_of_inlets(web)
    check_row(web, row)
    return rings_with_terms(web, terms, row)


def rings_behind(web, terms, row):
    """The rings at all rows to which a way leads from a row, of those that go round alike only one, and their terms."""
    reached = sorted(set([way[-1] for way in ways_from(web, row)]))
    found = []
    for name in reached:
        if name in web.names:
            found.extend([(ring, term) for ring, term in rings_with_terms(web, terms, name) if min(ring) == name])
    return found


def tables_of_inlets(web, told):
    """The told tables, and tables for those inlets of the unknown makers of a web for which none is told."""
    found = {name: table for name, table in told}
    for unknown in web.opens:
        for name in names_of_inlets(unknown, inlets_of(web, unknown)):
            if name not in found:
                found[name] = Table.shift(0)
    return found


def filled_with(web, tables):
    """The web with makers that need just these tables."""
    makers = []
    for unknown in web.opens:
        names = names_of_inlets(unknown, inlets_of(web, unknown))
        makers.append((unknown, maker_of([tables[name] for name in names])))
    return web.filled(makers)


def forever(web, row, facts=()):
    """Tell whether a row comes for ever whatever the unknown makers need for which the facts hold."""
    terms = terms_of_inlets(web)
    check_row(web, row)
    told = rings_behind(web, terms, row)
    if max([samples_in(term) for _, term in told], default=0) > MOST_SAMPLES:
        raise TooMany("sample")
    check_facts(facts)
    Links(facts).check_odds()
    for ring, term in told:
        found = everywhere((term, STEP_BACK), facts)
        if not found.holds:
            tables = tables_of_inlets(web, found.tables)
            count = surely(filled_with(web, tables), row).count
            return Forever(ring, tuple([(name, tables[name]) for name in sorted(tables)]), count)
    return Forever(None, None, None)
