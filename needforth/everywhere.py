"""What holds for all steady makers, and which facts are enough for it."""

from needforth.searching import search
from needforth.sheets import Sheet, links_of
from needforth.tables import Table
from needforth.termforms import LONGEST_SHIFT
from needforth.verdicts import Verdict
from needforth.walking import PLACE


class Everywhere(Verdict):
    """Whether a saying holds for all steady makers; place is the least place at which it can fail."""

    def __init__(self, tree, place, tables):
        Verdict.__init__(self, place is None)
        self.tree = tree
        self.place = place
        self.tables = tables


def values_told(sheet, counts):
    """For each name of a sheet the pairs of the place and the value of its samples."""
    found = {}
    for name, samples in sheet.samples:
        found[name] = [(counts[place], counts[value]) for place, value in samples]
    return found


def steps_through(values):
    """The least table with at least these values, from each place with a value on."""
    reach = max([place for place, _ in values], default=0)
    climb = [0] * (reach + 1)
    for place, value in values:
        climb[place] = max(climb[place], value)
    for place in range(1, reach + 1):
        climb[place] = max(climb[place], climb[place - 1])
    return Table(climb[1:], climb[-1:])


def table_through(name, told, links, lag):
    """The least table that has the values told for a name and keeps the facts, raised behind the lag to be steady."""
    values = []
    for other, pairs in told.items():
        if links.linked(other, name):
            values.extend(pairs)
    table = steps_through(values) & Table.shift(-lag)
    if name in links.floors:
        table = table & Table.shift(links.floors[name])
    return table


def tables_through(told, links):
    """Steady tables for all names that have the values told for them and keep the facts."""
    # up to the last place with a value, and below every ceiling, the tables are not raised
    lag = max([LONGEST_SHIFT] + [place for pairs in told.values() for place, _ in pairs])
    names = {name: True for name in list(told) + list(links.names)}
    return tuple([(name, table_through(name, told, links, lag)) for name in sorted(list(names))])


def everywhere(saying, facts=()):
    """Tell whether a saying holds for all steady makers with these facts, or where it fails first."""
    links = links_of(saying, facts)
    place = None
    tables = None
    sheet = Sheet(saying, facts)
    tree, counts = search(sheet)
    while tree is None:
        place = counts[PLACE]
        tables = tables_through(values_told(sheet, counts), links)
        sheet = Sheet(saying, facts, place - 1)
        tree, counts = search(sheet)
    return Everywhere(tree, place, tables)


def holds_with(saying, facts, lot):
    """Whether with the facts of a lot alone a saying holds for all steady makers."""
    tree, _ = search(Sheet(saying, [facts[number] for number in lot]))
    return tree is not None


def has_within(lot, lots):
    """Whether some one of several lots has no number that this lot lacks."""
    return any([all([number in lot for number in other]) for other in lots])


def longer_lots(lot, many):
    """The lots with one number more, which comes behind those of a lot, out of so many facts."""
    start = lot[-1] + 1 if lot else 0
    return [lot + (number,) for number in range(start, many)]


def enough(saying, facts):
    """All least lots of facts with which alone a saying holds for all steady makers."""
    links_of(saying, facts)
    many = len(facts)
    if not holds_with(saying, facts, tuple(range(many))):
        return ()
    found = []
    lots = [()]
    while lots:
        longer = []
        for lot in lots:
            if holds_with(saying, facts, lot):
                found.append(lot)
            else:
                longer.extend(longer_lots(lot, many))
        lots = [lot for lot in longer if not has_within(lot, found)]
    return tuple(sorted(found))
