"""Tables: how many pieces of one row are needed for how many pieces of another one."""

from math import gcd

from needforth.errors import BadCount, BadTable
from needforth.forms import end_of, plain_form, value_at
from needforth.joining import behind_form, both_form, either_form, turn_form
from needforth.kinds import is_climb, is_count, is_integer

LONGEST_SHIFT = 5000


def check_table(head, loop, rise):
    """Raise the error of the first one of the three that is wrong."""
    if not is_climb(head):
        raise BadTable("head")
    if not is_climb(loop) or loop and head and loop[0] < head[-1]:
        raise BadTable("loop")
    if not is_count(rise) or not loop and rise != 0 or loop and loop[-1] > loop[0] + rise:
        raise BadTable("rise")


class Table:
    """A value, a count or never, at each place n = 1, 2, 3, .., told by a head, a loop and a rise."""

    def __init__(self, head, loop=(), rise=0):
        check_table(head, loop, rise)
        self.head, self.loop, self.rise = plain_form(tuple(head), tuple(loop), rise)

    def __eq__(self, other):
        return (isinstance(other, Table) and self.head == other.head and self.loop == other.loop
                and self.rise == other.rise)

    def __call__(self, n):
        if n is not None and not is_count(n):
            raise BadCount(n)
        return value_at(self, n)

    @property
    def end(self):
        """The least count or never that no value exceeds."""
        return end_of(self)

    @property
    def rate(self):
        """The rise and the entries of the loop in lowest terms, None if some value is never."""
        if not self.loop:
            return None
        common = gcd(self.rise, len(self.loop))
        return self.rise // common, len(self.loop) // common

    @property
    def steady(self):
        """Whether all values are counts and grow without end."""
        return self.rise > 0

    @staticmethod
    def shift(k):
        """The table with the value n + k at each place n, or 0 where this is less than 0."""
        if not is_integer(k) or not -LONGEST_SHIFT <= k <= LONGEST_SHIFT:
            raise BadCount(k)
        return Table((0,) * -k, (1 + max(k, 0),), 1)

    def __mul__(self, other):
        head, loop, rise = behind_form(self, other)
        return Table(head, loop, rise)

    def __and__(self, other):
        head, loop, rise = both_form(self, other)
        return Table(head, loop, rise)

    def __or__(self, other):
        head, loop, rise = either_form(self, other)
        return Table(head, loop, rise)

    def __invert__(self):
        head, loop, rise = turn_form(self)
        return Table(head, loop, rise)
