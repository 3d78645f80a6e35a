"""Claims about webs, and their verdicts."""

from needforth.chasing import first_excess
from needforth.comparing import below
from needforth.errors import BadClaim, TooMany
from needforth.kinds import is_count, is_row
from needforth.pairing import first_wrong, told_by_name
from needforth.tables import Table
from needforth.webs import is_row_name

MOST_CLAIMS = 20

# how many things stand in a claim of each kind
ENTRIES = {"comes": 2, "gives": 4, "needs": 4, "keeps": 4}


def are_counts(thing):
    """Whether a thing tells counts of rows, no row twice."""
    return first_wrong(thing, lambda name, count: is_row_name(name) and is_count(count)) is None


def are_paces(thing):
    """Whether a thing tells paces of rows, no row twice."""
    return first_wrong(thing, lambda name, pace: is_row_name(name) and isinstance(pace, Table)) is None


def is_claim(thing):
    """Whether a thing is a claim."""
    if not is_row(thing) or not thing or not isinstance(thing[0], str) or len(thing) != ENTRIES.get(thing[0]):
        return False
    if not is_row_name(thing[1]):
        return False
    if thing[0] == "gives":
        return are_counts(thing[2]) and is_count(thing[3])
    if thing[0] == "needs":
        return is_row_name(thing[2]) and isinstance(thing[3], Table)
    if thing[0] == "keeps":
        return isinstance(thing[2], Table) and are_paces(thing[3])
    return True


def check_claim(claim):
    """Raise the error that is due for a thing that is passed as a claim."""
    if not is_claim(claim):
        raise BadClaim(claim)


def check_claims(claims):
    """Raise the error that is due for a thing that is passed as claims."""
    if not is_row(claims):
        raise BadClaim(claims)
    for claim in claims:
        check_claim(claim)
    check_room(len(claims))


def check_room(many):
    """Raise the error that is due for so many claims."""
    if many > MOST_CLAIMS:
        raise TooMany("claim")


def settled_pairs(thing):
    """Pairs as tuples, and any other thing as it is."""
    return tuple([(name, told) for name, told in thing]) if is_row(thing) else thing


def settled_claim(claim):
    """A claim with tuples wherever lists were passed."""
    return tuple([settled_pairs(thing) for thing in claim])


def givens_of(claim):
    """The names besides that of the row in a claim."""
    if claim[0] == "needs":
        return [claim[2]]
    return [name for thing in claim if is_row(thing) for name, _ in thing]


def verdict_of(web, net, claim):
    """The verdict of a claim about a web and its net; there is no net if the web is not closed."""
    row = claim[1]
    if net is None or row not in web.names or not all([name in web.givens for name in givens_of(claim)]):
        return None
    if claim[0] == "comes":
        return net.most_of(row) is None
    if claim[0] == "gives":
        lack = net.lacks_with(told_by_name(claim[2]))[row]
        return lack is None or lack > claim[3]
    if claim[0] == "needs":
        return below(net.need_of(row, claim[2]), claim[3]).holds
    return first_excess(claim[2], net.kept_with(told_by_name(claim[3]), [row])[row], 0) is None
