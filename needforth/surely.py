"""What surely comes of a row on all courses, and chains that show that no more surely comes."""

from needforth.courses import LAST_PIECE, course_of, greatest
from needforth.errors import Lacking
from needforth.kinds import is_count, is_pair, is_row
from needforth.nets import Net, asks_behind, asks_of
from needforth.pairing import told_by_name
from needforth.running import FIRST_WAY, check_counts
from needforth.verdicts import Verdict
from needforth.ways import asked, check_row
from needforth.webs import check_closed


class Surely(Verdict):
    """Whether a row comes for ever on all courses; count is the number of its pieces that surely come."""

    def __init__(self, row, count, chain, courses):
        Verdict.__init__(self, count is None)
        self.row = row
        self.count = count
        self.chain = chain
        self.courses = courses


def net_behind(web, row):
    """The net of whatever a row of a closed web asks for."""
    return Net(asks_behind(asks_of(web), [row]))


def waits_for(net, lacks, pair):
    """The pair that a piece that may not come waits for, None if the chain ends with this piece."""
    name, piece = pair
    asks = net.asks.get(name, ())
    values = [table(piece) for _, table in asks]
    if None in values:
        return None
    for (source, _), value in zip(asks, values):
        if lacks.get(source) is not None and lacks[source] <= value:
            return source, lacks[source]
    return None


def chain_from(net, lacks, row):
    """The chain from the first piece of a row that may not come."""
    found = [(row, lacks[row])]
    behind = waits_for(net, lacks, found[0])
    while behind is not None and behind not in found:
        found.append(behind)
        behind = waits_for(net, lacks, behind)
    if behind is not None:
        found.append(behind)
    return tuple(found)


def inlet_for(web, pair, behind):
    """An inlet at which a row asks for the pair behind, or at which its need is never if there is none."""
    name, piece = pair
    maker, sources = web[name]
    if behind is None:
        return 0
    asking = []
    for inlet, source in enumerate(sources):
        value = greatest(maker, inlet)(piece)
        if source == behind[0] and (value is None or value >= behind[1]):
            asking.append(inlet)
    return asking[0]


def courses_along(web, chain):
    """Courses of all rows on which a chain shows what does not come, None if some piece is too great for them."""
    found = {}
    for pair, behind in zip(chain, chain[1:] + (None,)):
        name, piece = pair
        if name in web.names and name not in found:
            if piece > LAST_PIECE:
                return None
            found[name] = course_of(web[name][0], inlet_for(web, pair, behind), piece)
    return tuple([(name, found.get(name, FIRST_WAY)) for name in web.names])


def surely(web, row, counts=()):
    """Tell how many pieces of a row come on all courses with these counts."""
    check_closed(web)
    check_row(web, row)
    check_counts(web, counts)
    net = net_behind(web, row)
    lacks = net.lacks_with(told_by_name(counts))
    if lacks[row] is None:
        return Surely(row, None, None, None)
    chain = chain_from(net, lacks, row)
    return Surely(row, lacks[row] - 1, chain, courses_along(web, chain))


def are_pieces(web, thing):
    """Whether a thing is a tuple of one or more pairs of a name of a web and a piece."""
    if not is_row(thing) or not thing:
        return False
    return all([is_pair(pair) and pair[0] in web and is_count(pair[1]) and pair[1] > 0 for pair in thing])


def are_asked(web, pairs):
    """Whether each pair ahead of the last one is of a row that asks for the pair behind it."""
    for (name, piece), (source, wanted) in zip(pairs, pairs[1:]):
        if name not in web.names or source not in web[name][1]:
            return False
        value = asked(web, name, source)(piece)
        if value is not None and wanted > value:
            return False
    return True


def ends(web, counts, pairs):
    """Whether a chain of pieces that are asked for shows by its last pair that they may not come."""
    name, piece = pairs[-1]
    names = [ahead for ahead, _ in pairs[:-1]]
    if len(set(names)) < len(names):
        return False
    if name in names:
        return pairs[-1] in pairs[:-1]
    if name in web.givens:
        return name in counts and piece > counts[name]
    return greatest(web[name][0], 0)(piece) is None


def judge_chain(web, row, counts, chain):
    """Whether a chain shows that a piece of a row may not come with these counts."""
    check_closed(web)
    check_row(web, row)
    check_counts(web, counts)
    if not are_pieces(web, chain):
        return False
    pairs = [(name, piece) for name, piece in chain]
    return pairs[0][0] == row and are_asked(web, pairs) and ends(web, told_by_name(counts), pairs)


def need(web, row, given):
    """The table of the least counts of a given with which pieces of a row come on all courses, the others endless."""
    check_closed(web)
    check_row(web, row)
    if given not in web.givens:
        raise Lacking(given)
    return net_behind(web, row).need_of(row, given)
