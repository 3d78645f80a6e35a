"""Needs of which only bounds are known, and sights that tell such bounds."""

from needforth.comparing import parting
from needforth.errors import AtOdds, BadBound, BadCount, BadSight, TooMany
from needforth.forms import last_at_most, settled_form, spread, value_at
from needforth.kinds import is_count, is_pair, is_row
from needforth.tables import Table

MOST_BOUNDS = 60
MOST_SIGHTS = 60


def is_place(thing):
    """Whether a thing is a count from 1."""
    return is_count(thing) and thing > 0


def is_above(thing):
    """Whether a thing is a bound from above."""
    return is_pair(thing) and is_place(thing[0]) and is_count(thing[1])


def is_below(thing):
    """Whether a thing is a bound from below."""
    return is_pair(thing) and is_place(thing[0]) and (thing[1] is None or is_count(thing[1]))


def check_bounds(above, below):
    """Raise the error that is due for things that are passed as bounds from above and from below."""
    if not is_row(above) or not all([is_above(bound) for bound in above]):
        raise BadBound("above")
    if len(above) > MOST_BOUNDS:
        raise TooMany("bound")
    if not is_row(below) or not all([is_below(bound) for bound in below]):
        raise BadBound("below")
    if len(below) > MOST_BOUNDS:
        raise TooMany("bound")
    for i, (n, c) in enumerate(above):
        for j, (m, d) in enumerate(below):
            if m <= n and (d is None or d > c):
                raise AtOdds((i, j))


def greatest_of(values):
    """The greatest one of several counts or nevers."""
    return None if None in values else max(values)


def least_table(below):
    """The least table that keeps bounds from below."""
    places = sorted(set([n for n, _ in below]))
    values = [greatest_of([0] + [c for n, c in below if n <= place]) for place in [0] + places]
    head, loop, rise = settled_form(spread(values, [0] + [place - 1 for place in places]), values[-1])
    return Table(head, loop, rise)


def greatest_table(above):
    """The greatest table that keeps bounds from above."""
    places = sorted(set([n for n, _ in above]))
    values = [min([c for n, c in above if n >= place]) for place in places]
    return Table(spread(values, [0] + places))


def keeps(table, above, below):
    """Whether a table keeps bounds."""
    for n, c in above:
        value = value_at(table, n)
        if value is None or value > c:
            return False
    for n, c in below:
        value = value_at(table, n)
        if value is not None and (c is None or value < c):
            return False
    return True


def check_sights(sights):
    """Raise the error that is due for a thing that is passed as sights."""
    if not is_row(sights):
        raise BadSight(-1)
    for number, sight in enumerate(sights):
        if not is_pair(sight) or not is_count(sight[0]) or not is_count(sight[1]):
            raise BadSight(number)
    if len(sights) > MOST_SIGHTS:
        raise TooMany("sight")


class Fits:
    """All tables that keep bounds from above and from below."""

    def __init__(self, above=(), below=()):
        check_bounds(above, below)
        self.above = tuple([(n, c) for n, c in above])
        self.below = tuple([(n, c) for n, c in below])
        self.least = least_table(self.below)
        self.greatest = greatest_table(self.above)

    @staticmethod
    def seen(sights):
        """The needs that keep all sights."""
        check_sights(sights)
        above = [(come, taken) for taken, come in sights if come > 0]
        below = [(come + 1, taken + 1) for taken, come in sights]
        return Fits(above, below)

    def __eq__(self, other):
        return isinstance(other, Fits) and self.above == other.above and self.below == other.below

    def __contains__(self, table):
        return isinstance(table, Table) and keeps(table, self.above, self.below)

    def __and__(self, other):
        return Fits(self.above + other.above, self.below + other.below)

    def sure(self, taken):
        """The least and the greatest number of pieces that come from so many taken ones."""
        if not is_count(taken):
            raise BadCount(taken)
        return last_at_most(self.greatest, taken), last_at_most(self.least, taken)

    @property
    def unsure(self):
        """The least count of taken pieces from which unlike numbers of pieces may come, None if there is none."""
        return parting(self.least, self.greatest)
