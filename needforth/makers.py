"""Makers, and what they need on a course."""

from needforth.errors import BadCourse, BadInlet, BadMaker, TooMany
from needforth.kinds import is_count, is_integer, is_pair, is_row
from needforth.tables import Table
from needforth.taking import Round, marks_along

MOST_INLETS = 3
MOST_WAYS = 4
MOST_DEEDS = 600
MOST_DEEDS_OF_SEVERAL = 24
MOST_FIRST = 200
MOST_THEN = 40


def is_deed(thing, inlets):
    """Whether a thing is a deed of a maker with so many inlets."""
    if isinstance(thing, str):
        return thing == "give"
    return is_count(thing) and thing < inlets


def are_deeds(thing, inlets):
    """Whether a thing is a tuple of deeds."""
    return is_row(thing) and all([is_deed(deed, inlets) for deed in thing])


def are_ways(thing, inlets):
    """Whether a thing is a tuple of 1 to 4 ways."""
    if not is_row(thing) or not 1 <= len(thing) <= MOST_WAYS:
        return False
    return all([are_deeds(way, inlets) and len(way) > 0 for way in thing])


def check_maker(inlets, begin, ways):
    """Raise the error of the first one of the three that is wrong."""
    if not is_integer(inlets) or not 1 <= inlets <= MOST_INLETS:
        raise BadMaker("inlets")
    if not are_deeds(begin, inlets):
        raise BadMaker("begin")
    if not are_ways(ways, inlets):
        raise BadMaker("ways")
    most = MOST_DEEDS if len(ways) == 1 else MOST_DEEDS_OF_SEVERAL
    if len(begin) > MOST_DEEDS or max([len(way) for way in ways]) > most:
        raise TooMany("deed")


def are_numbers(thing, least, most, many):
    """Whether a thing is a tuple of the numbers of so many ways, its length from the least to the most one."""
    if not is_row(thing) or not least <= len(thing) <= most:
        return False
    return all([is_count(number) and number < many for number in thing])


def is_course(thing, maker):
    """Whether a thing is a course of a maker."""
    many = len(maker.ways)
    return (is_pair(thing) and are_numbers(thing[0], 0, MOST_FIRST, many)
            and are_numbers(thing[1], 1, MOST_THEN, many))


def check_inlet(maker, inlet):
    """Raise the error that is due for a thing that is passed as the number of an inlet."""
    if not is_count(inlet) or inlet >= maker.inlets:
        raise BadInlet(inlet)


class Maker:
    """Takes pieces at its inlets and gives pieces: once as its beginning tells, then in rounds that go its ways."""

    def __init__(self, inlets, begin, ways):
        check_maker(inlets, begin, ways)
        self.inlets = inlets
        self.begin = tuple(begin)
        self.ways = tuple([tuple(way) for way in ways])

    def __eq__(self, other):
        return (isinstance(other, Maker) and self.inlets == other.inlets and self.begin == other.begin
                and self.ways == other.ways)

    def need(self, inlet, course):
        """The table of what is taken at an inlet ahead of each given piece on a course."""
        check_inlet(self, inlet)
        if not is_course(course, self):
            raise BadCourse(course)
        rounds = [Round(way, inlet) for way in self.ways]
        start = [Round(self.begin, inlet)] + [rounds[number] for number in course[0]]
        head, taken = marks_along(start, 0)
        loop, behind = marks_along([rounds[number] for number in course[1]], taken)
        return Table(head, loop, behind - taken if loop else 0)
