"""Paces that rows keep up at paces of the givens."""

from needforth.chasing import first_excess
from needforth.errors import BadPace, BadPaces, NoPace
from needforth.nets import always
from needforth.pairing import first_wrong, told_by_name
from needforth.surely import net_behind, surely
from needforth.tables import Table
from needforth.verdicts import Verdict
from needforth.ways import check_row
from needforth.webs import check_closed


class Kept(Verdict):
    """Whether a row keeps up a pace; stage is the least one at which it does not."""

    def __init__(self, stage, wanted, found):
        Verdict.__init__(self, stage is None)
        self.stage = stage
        self.wanted = wanted
        self.found = found


def check_pace(pace):
    """Raise the error that is due for a thing that is passed as a pace."""
    if not isinstance(pace, Table):
        raise BadPace()


def check_paces(names, paces):
    """Raise the error that is due for a thing that is passed as paces of some of these names."""
    number = first_wrong(paces, lambda name, pace: name in names and isinstance(pace, Table))
    if number is not None:
        raise BadPaces(number)


def check_reach(net, wanted):
    """Raise the error that is due if one of the wanted paces is not kept up even with endless givens."""
    stages = [first_excess(pace, always(net.most_of(row)), 0) for row, pace in wanted.items()]
    lost = [stage for stage in stages if stage is not None]
    if lost:
        raise NoPace(min(lost))


def counts_at(paces, stage):
    """The counts of the givens at a stage, those left out that are endless there."""
    return tuple([(given, table(stage)) for given, table in paces if table(stage) is not None])


def kept(web, row, pace, paces=()):
    """Tell whether a row keeps up a pace at these paces of the givens."""
    check_closed(web)
    check_row(web, row)
    check_pace(pace)
    check_paces(web.givens, paces)
    stage = first_excess(pace, net_behind(web, row).kept_with(told_by_name(paces), [row])[row], 0)
    if stage is None:
        return Kept(None, None, None)
    return Kept(stage, pace(stage), surely(web, row, counts_at(paces, stage)))


def earliest(web, row, paces=()):
    """The greatest pace that a row keeps up at these paces of the givens."""
    check_closed(web)
    check_row(web, row)
    check_paces(web.givens, paces)
    return net_behind(web, row).kept_with(told_by_name(paces), [row])[row]


def least_paces(web, row, pace):
    """The least pace of each given with which a row keeps up a pace."""
    check_closed(web)
    check_row(web, row)
    check_pace(pace)
    net = net_behind(web, row)
    check_reach(net, {row: pace})
    found = net.asked_for({row: pace})
    return tuple([(given, found.get(given, always(0))) for given in web.givens])
