"""Which makers may stand in a hole so that a row keeps up a pace."""

from needforth.chasing import first_excess
from needforth.errors import NoHole
from needforth.nets import Net, always, asks_behind, asks_of, up_to
from needforth.pairing import told_by_name
from needforth.paces import check_pace, check_paces
from needforth.residues import over, under
from needforth.tables import Table
from needforth.verdicts import Verdict
from needforth.ways import check_row


class Widest(Verdict):
    """Whether and which makers in a hole let a row keep up a pace; stage is the least one at which none does."""

    def __init__(self, tables, wanted, stage):
        Verdict.__init__(self, stage is None)
        self.tables = tables
        self.wanted = wanted
        self.stage = stage


def hole_of(web):
    """The row of the hole of a web and its sources, or the error that is due if it has none."""
    rows = [(name, sources) for name, maker, sources in web.rows if isinstance(maker, str)]
    if len(rows) != 1:
        raise NoHole()
    return rows[0]


def widest_at(net, hole, source, asked, earliest):
    """The greatest table that a maker in a hole may need at an inlet with this source, whose earliest pace is told.

    For the pieces that are asked for at a stage it may need what comes of the source at this stage,
    and what the source itself asks of the hole must come ahead of the piece for which it is needed.
    """
    ahead = net.asked_for({source: up_to(net.most_of(source))}).get(hole, always(0))
    table = under(ahead, Table.shift(-1))
    # the other table may be very long, and is not worked out where this one is below it
    if first_excess(table * asked, earliest, 0) is not None:
        table = table | over(earliest, asked)
    last = asked.end
    if last is None or not table.head and not table.loop:
        return table
    # behind the last piece that is asked for it may need whatever it likes
    return table & Table((0,) * last)


def widest(web, row, pace, paces=()):
    """Tell which makers may stand in the hole of a web so that a row keeps up a pace."""
    hole, sources = hole_of(web)
    check_row(web, row)
    check_pace(pace)
    check_paces(web.givens, paces)
    net = Net(asks_behind(asks_of(web), [row, *sources]))
    earliest = net.kept_with(told_by_name(paces), [row, *sources])
    stage = first_excess(pace, earliest[row], 0)
    if stage is not None:
        return Widest(None, None, stage)
    asked = net.asked_for({row: pace}).get(hole, always(0))
    tables = [widest_at(net, hole, source, asked, earliest[source]) for source in sources]
    return Widest(tuple(tables), asked.end, None)
