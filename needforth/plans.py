"""Plans of paces for all rows, and what must be stored for them."""

from needforth.chasing import first_excess
from needforth.comparing import gap
from needforth.courses import greatest, least
from needforth.errors import BadPlan, NotWhole
from needforth.nets import Net, always, asks_of
from needforth.pairing import first_wrong, told_by_name
from needforth.paces import check_paces, check_reach
from needforth.tables import Table
from needforth.terms import check_told
from needforth.verdicts import Verdict
from needforth.webs import check_closed


class Planned(Verdict):
    """Whether a plan is whole; else the first row, its first inlet and the least stage at which it is not."""

    def __init__(self, row, inlet, stage):
        Verdict.__init__(self, row is None)
        self.row = row
        self.inlet = inlet
        self.stage = stage


def check_plan(web, plan):
    """Raise the error that is due for a thing that is passed as a plan."""
    number = first_wrong(plan, lambda name, pace: name in web and isinstance(pace, Table))
    if number is not None:
        raise BadPlan(number)
    check_told(web.givens + web.names, told_by_name(plan))


def fault_at_inlets(web, row, paces):
    """The first inlet of a row that lacks something in a plan, and the least stage there, None if none does."""
    maker, sources = web[row]
    for inlet, source in enumerate(sources):
        stage = first_excess(greatest(maker, inlet) * paces[row], paces[source], 0)
        if stage is not None:
            return inlet, stage
    return None


def planned(web, plan):
    """Tell whether a plan is whole."""
    check_closed(web)
    check_plan(web, plan)
    paces = told_by_name(plan)
    earliest = Net(asks_of(web)).kept_with({given: paces[given] for given in web.givens}, web.names)
    for row in web.names:
        fault = fault_at_inlets(web, row, paces)
        if fault is not None:
            inlet, stage = fault
            return Planned(row, inlet, stage)
        stage = first_excess(paces[row], earliest[row], 0)
        if stage is not None:
            return Planned(row, None, stage)
    return Planned(None, None, None)


def latest(web, wanted):
    """The least whole plan in which some rows have at least the wanted paces."""
    check_closed(web)
    check_paces(web.names, wanted)
    paces = told_by_name(wanted)
    net = Net(asks_of(web))
    check_reach(net, paces)
    found = net.asked_for(paces)
    return tuple([(name, found.get(name, always(0))) for name in web.givens + web.names])


def stores(web, plan):
    """For all inlets of all rows what must be stored there for a whole plan."""
    told = planned(web, plan)
    if not told.holds:
        raise NotWhole(told.row)
    paces = told_by_name(plan)
    found = []
    for row, maker, sources in web.rows:
        for inlet, source in enumerate(sources):
            found.append((row, inlet, gap(paces[source], least(maker, inlet) * paces[row])))
    return tuple(found)
