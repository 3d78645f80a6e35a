"""What sights of a whole web say of a maker inside."""

from needforth.errors import Lacking, NoHole, NoWay, Ringed, Unseen
from needforth.forms import last_at_most
from needforth.holes import hole_of
from needforth.makers import Maker
from needforth.nets import Net, always, asks_of, up_to
from needforth.sights import Fits, check_sights
from needforth.tables import Table
from needforth.ways import check_row, rings


def easy_net(web):
    """The net of a web with a hole in which a maker stands that gives without taking."""
    easy = Maker(1, (), (("give",),))
    return Net(asks_of(web.filled([(web.opens[0], easy)])))


def need_in(net, name, given):
    """The need of a row or a given on a given."""
    if name == given:
        return Table.shift(0)
    return net.need_of(name, given)


def bounds_seen(sights, row_needs, source_needs, asked):
    """The bounds from above and from below that sights tell, or the error for the first one that no maker fits."""
    above = []
    below = []
    for number, (taken, come) in enumerate(sights):
        ready = last_at_most(source_needs, taken)
        if beyond(row_needs(come), taken):
            raise Unseen(number)
        if asked(come) > 0:
            above.append((asked(come), ready))
        if not beyond(row_needs(come + 1), taken):
            if asked(come + 1) == 0:
                raise Unseen(number)
            below.append((asked(come + 1), ready + 1))
    return above, below


def beyond(value, limit):
    """Whether a count or never is greater than a count."""
    return value is None or value > limit


def inside(web, row, given, sights):
    """The needs that an unknown maker in a web can have if the sights of the web are right."""
    hole, sources = hole_of(web)
    if len(sources) != 1:
        raise NoHole()
    if rings(web, hole):
        raise Ringed(hole)
    check_row(web, row)
    if given not in web.givens:
        raise Lacking(given)
    net = easy_net(web)
    source_needs = need_in(net, sources[0], given)
    if source_needs.end is not None:
        raise NoWay(given)
    check_sights(sights)
    # a row for which a hole is easy asks for as many pieces of it as if it were endless
    asked = net.asked_for({row: up_to(net.most_of(row))}).get(hole, always(0))
    above, below = bounds_seen(sights, net.need_of(row, given), source_needs, asked)
    return Fits(above, below)
