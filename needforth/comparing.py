"""Which table lies below another one, how far it goes beyond it, and where two tables part."""

from needforth.chasing import first_excess, greatest_excess
from needforth.errors import BadCount
from needforth.forms import value_at
from needforth.kinds import is_count
from needforth.verdicts import Verdict


class Below(Verdict):
    """Whether one table lies below another one; place is the least place where it does not."""

    def __init__(self, first, second, place):
        Verdict.__init__(self, place is None)
        self.first = first
        self.second = second
        self.place = place
        self.sides = None if place is None else (value_at(first, place), value_at(second, place))


def below(first, second):
    """Tell whether at no place the value of the first table is greater than that of the second one."""
    return Below(first, second, first_excess(first, second, 0))


class Gap:
    """How far one table goes beyond another one where that one has a count."""

    def __init__(self, first, second):
        self.first = first
        self.second = second
        self.most = greatest_excess(first, second)
        self.place = self.most
        if self.most is not None and self.most > 0:
            self.place = first_excess(first, second, self.most - 1)

    def beyond(self, k):
        """The least place with a difference greater than k, None if there is none."""
        if not is_count(k):
            raise BadCount(k)
        return first_excess(self.first, self.second, k)


def gap(first, second):
    """Tell how far the first table goes beyond the second one."""
    return Gap(first, second)


def parting(first, second):
    """The least count of taken pieces with which needs like the two tables give unlike numbers of pieces.

    It is the lesser one of the two values at the least place where they are not the same:
    with less than that, no piece from there on comes from either of them.
    """
    if first == second:
        return None
    places = [first_excess(first, second, 0), first_excess(second, first, 0)]
    place = min([n for n in places if n is not None])
    values = [value_at(first, place), value_at(second, place)]
    return min([value for value in values if value is not None])
