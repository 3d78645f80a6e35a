"""How tables are put together: the forms of products, of both, of either, of turns and of residues."""

from math import gcd, lcm

from needforth.chasing import Chase, drift_of, longest_head
from needforth.forms import end_of, last_at_most, settled_form, spread, value_at, values_from


def values_behind(table, places):
    """The values of a table at several places."""
    return [value_at(table, n) for n in places]


def behind_form(first, second):
    """The form of the product of two tables."""
    if not second.loop or second.rise == 0:
        return settled_form(values_behind(first, second.head), value_at(first, end_of(second)))
    lead = max(len(second.head), last_at_most(second, len(first.head)))
    head = values_behind(first, values_from(second, 1, lead))
    if not first.loop or first.rise == 0:
        return settled_form(head, end_of(first))
    common = gcd(len(first.loop), second.rise)
    many = len(second.loop) * len(first.loop) // common
    loop = values_behind(first, values_from(second, lead + 1, many))
    return tuple(head), tuple(loop), first.rise * second.rise // common


def chosen(ones, others, greater):
    """The greater one of each two values, or the lesser one."""
    if greater:
        return tuple([other if one < other else one for one, other in zip(ones, others)])
    return tuple([one if one < other else other for one, other in zip(ones, others)])


def settling(first, second):
    """A place, and the lesser and the greater one of two tables at all places behind it.

    The two are None if none of them is the lesser one for good. Both tables have loops.
    """
    lead = longest_head(first, second)
    if drift_of(first, second) > 0:
        return max(lead, Chase(second, first, lead).last_lead() or 0), second, first
    chase = Chase(first, second, lead)
    if drift_of(first, second) < 0:
        return max(lead, chase.last_lead() or 0), first, second
    if chase.first_lead(0) is None:
        return lead, first, second
    if Chase(second, first, lead).first_lead(0) is None:
        return lead, second, first
    return lead, None, None


def joined_form(first, second, greater):
    """The form of the greater values of two tables with loops, or of the lesser ones."""
    lead, lesser, larger = settling(first, second)
    head = chosen(values_from(first, 1, lead), values_from(second, 1, lead), greater)
    if lesser is None:
        many = lcm(len(first.loop), len(second.loop))
        loop = chosen(values_from(first, lead + 1, many), values_from(second, lead + 1, many), greater)
        return head, loop, first.rise * many // len(first.loop)
    tail = larger if greater else lesser
    return head, tuple(values_from(tail, lead + 1, len(tail.loop))), tail.rise


def both_form(first, second):
    """The form of the greater ones of the values of two tables."""
    if first.loop and second.loop:
        return joined_form(first, second, True)
    lead = min([len(table.head) for table in (first, second) if not table.loop])
    return chosen(values_from(first, 1, lead), values_from(second, 1, lead), True), (), 0


def either_form(first, second):
    """The form of the lesser ones of the values of two tables."""
    if first.loop and second.loop:
        return joined_form(first, second, False)
    if first.loop or len(first.head) > len(second.head) and not second.loop:
        return either_form(second, first)
    # behind the head of the first one, which has never there, the second one is the lesser one
    lead = len(first.head)
    head = chosen(first.head, values_from(second, 1, lead), False)
    rest = max(0, len(second.head) - lead)
    if not second.loop:
        return head + second.head[lead:], (), 0
    return (head + tuple(values_from(second, lead + 1, rest)),
            tuple(values_from(second, lead + rest + 1, len(second.loop))), second.rise)


def turn_form(table):
    """The form of the turn of a table: m stands behind its value at m, up to its value at m + 1."""
    many = len(table.head)
    if not table.loop:
        head = spread(list(range(many)), [0] + list(table.head))
        return tuple(head), (many,), 0
    marks = [0] + values_from(table, 1, many + 1 + len(table.loop))
    head = spread(list(range(many + 1)), marks[:many + 2])
    if table.rise == 0:
        return tuple(head), (), 0
    loop = spread(list(range(many + 1, many + 1 + len(table.loop))), marks[many + 1:])
    return tuple(head), tuple(loop), len(table.loop)


def under_form(first, second):
    """The form of the greatest table that can stand behind the first one without going above the second one."""
    if not second.loop or second.rise == 0:
        end = end_of(second)
        tail = None if end is None else last_at_most(first, end)
        return settled_form(places_under(first, second.head), tail)
    limit = settled_from(first)
    lead = last_at_most(second, limit - 1)
    if not first.loop or first.rise == 0:
        tail = None if first.loop else len(first.head)
        return settled_form(places_under(first, values_from(second, 1, lead)), tail)
    lead = max(lead, len(second.head))
    common = gcd(first.rise, second.rise)
    many = len(second.loop) * first.rise // common
    head = places_under(first, values_from(second, 1, lead))
    loop = places_under(first, values_from(second, lead + 1, many))
    return tuple(head), tuple(loop), len(first.loop) * second.rise // common


def settled_from(table):
    """The count from which on the places with at most so much are none of the head (or are all that have a count)."""
    if table.loop:
        return table.loop[0]
    return table.head[-1] if table.head else 0


def places_under(table, limits):
    """For each limit the greatest place with a value that is at most this limit."""
    return [last_at_most(table, limit) for limit in limits]


def over_form(first, second):
    """The form of the greatest table that can stand ahead of the second one without going above the first one."""
    if first.loop and second.loop and first.rise > 0 and second.rise > 0:
        return over_steady_form(first, second)
    lead, tail = over_settled(first, second)
    marks = [0] + values_from(second, 1, lead)
    return settled_form(spread(values_from(first, 1, lead), marks), tail)


def over_steady_form(first, second):
    """The form of `over` for two steady tables."""
    lead = longest_head(first, second) + 1
    common = gcd(len(first.loop), len(second.loop))
    many = len(second.loop) * len(first.loop) // common
    marks = [0] + values_from(second, 1, lead + many)
    head = spread(values_from(first, 1, lead), marks[:lead + 1])
    loop = spread(values_from(first, lead + 1, many), marks[lead:])
    return tuple(head), tuple(loop), first.rise * len(second.loop) // common


def over_settled(first, second):
    """The place of the last entry of `over` that is less than its end, and its end, if one table is not steady."""
    if not second.loop:
        tail = value_at(first, len(second.head) + 1)
        if tail is None:
            return len(first.head), None
        return last_at_most(first, tail - 1), tail
    if second.rise == 0:
        # there are no more places with greater values: behind the end it is never
        last = len(second.head) + 1
        return last if first.loop else min(last, len(first.head)), None
    return len(first.head), end_of(first)
