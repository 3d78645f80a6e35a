"""What rows ask of each other, and what follows from it for their pieces and their paces.

A net tells for each row pairs of a source and the table of what the row asks of it. A name for which it tells none
is a leaf: a given, or the row of a hole. Never is None.

A piece may fail to come exactly if a chain of what is asked leads from it to a leaf that has fewer pieces, to a
maker that gives no more, or back to the very piece. Where no piece asks for itself, whoever goes round on a ring
comes back to lesser pieces than he started from. So each ring is looked at once, by itself, and whatever else
follows does so along ways on which no name stands twice.
"""

from needforth.circling import first_round
from needforth.courses import greatest
from needforth.forms import last_at_most
from needforth.residues import under
from needforth.tables import Table


def always(value):
    """The table with this count, or never, at all places."""
    if value is None:
        return Table(())
    return Table((), (value,), 0)


def up_to(last):
    """The table that has each place as its value up to a last one, and this one behind it; None for no last one."""
    if last is None:
        return Table.shift(0)
    return Table(tuple(range(1, last + 1)), (last,), 0)


def least_of(values):
    """The least one of several counts or nevers."""
    return min([value for value in values if value is not None], default=None)


def joined_asks(sources, tables):
    """The pairs of each source and both of all tables of the inlets that take from it."""
    found = {}
    for source, table in zip(sources, tables):
        found[source] = found[source] & table if source in found else table
    return list(found.items())


def asks_of(web):
    """What each row with a known maker asks of its sources on all courses."""
    found = {}
    for name, maker, sources in web.rows:
        if not isinstance(maker, str):
            found[name] = joined_asks(sources, [greatest(maker, inlet) for inlet in range(maker.inlets)])
    return found


def asks_behind(asks, rows):
    """Those of what is asked to which a way leads from some rows."""
    found = {}
    pending = list(rows)
    while pending:
        name = pending.pop()
        if name in asks and name not in found:
            found[name] = asks[name]
            pending.extend([source for source, _ in asks[name]])
    return found


def rings_among(asks):
    """Each ring once: pairs of one of its rows and the tables of what is asked along it from there."""
    order = list(asks)
    found = []
    for number, start in enumerate(order):
        pending = [((start,), ())]
        while pending:
            names, tables = pending.pop()
            for source, table in asks[names[-1]]:
                if source == start:
                    found.append((start, tables + (table,)))
                elif source in order[number:] and source not in names:
                    pending.append((names + (source,), tables + (table,)))
    return found


def first_stop(pairs):
    """The least piece for which one of the tables of a row is never, None if there is none."""
    return least_of([None if table.loop else len(table.head) + 1 for _, table in pairs])


def lack_through(table, lack):
    """The least piece for which a table asks for a piece that may not come; None stands for none."""
    last = None if lack is None else last_at_most(table, lack - 1)
    return None if last is None else last + 1


class Net:
    """What rows ask, and for each row the first piece that may not come even if all leaves are endless."""

    def __init__(self, asks):
        self.asks = asks
        stops = {row: first_stop(pairs) for row, pairs in asks.items()}
        for row, tables in rings_among(asks):
            stops[row] = least_of([stops[row], first_round(tables)])
        self.stops = self.lacks_from(stops)

    def lacks_from(self, stops):
        """For each name the first piece that may not come if for some names these ones do not."""
        lacks = {name: stops[name] for name in stops}
        settled = False
        while not settled:
            settled = True
            for row, pairs in self.asks.items():
                for source, table in pairs:
                    lack = least_of([lacks[row], lack_through(table, lacks.get(source))])
                    if lack != lacks[row]:
                        lacks[row] = lack
                        settled = False
        return lacks

    def lacks_with(self, counts):
        """For each name the first piece that may not come with these counts of the leaves."""
        stops = {name: self.stops[name] for name in self.stops}
        for name, count in counts.items():
            stops[name] = count + 1
        return self.lacks_from(stops)

    def most_of(self, row):
        """How many pieces of a row surely come if all leaves are endless; a leaf has all its pieces then."""
        stop = self.stops.get(row)
        return None if stop is None else stop - 1

    def asked_for(self, paces):
        """For each name that is asked for the least pace with which the paces told for some rows are kept up.

        These paces must be kept up if all leaves are endless.
        """
        found = {name: paces[name] for name in paces}
        pending = list(found)
        while pending:
            row = pending.pop(0)
            for source, table in self.asks.get(row, ()):
                pace = table * found[row]
                if source in found:
                    pace = found[source] & pace
                if source not in found or not pace == found[source]:
                    found[source] = pace
                    if source not in pending:
                        pending.append(source)
        return found

    def need_of(self, row, leaf):
        """The table of the least counts of a leaf with which pieces of a row surely come, the other ones endless."""
        most = self.most_of(row)
        asked = self.asked_for({row: up_to(most)}).get(leaf, always(0))
        return asked if most is None else asked & Table((0,) * most)

    def kept_with(self, paces, names):
        """For these and other names the greatest paces that they keep up at these paces of leaves."""
        found = {name: always(self.most_of(name)) for name in list(names) + list(self.asks)}
        for name in paces:
            found[name] = paces[name]
        fresh = list(found)
        while fresh:
            later = []
            for name, pairs in self.asks.items():
                pace = found[name]
                for source, table in pairs:
                    if source in fresh:
                        pace = pace | under(table, found[source])
                if not pace == found[name]:
                    found[name] = pace
                    later.append(name)
            fresh = later
        return found
