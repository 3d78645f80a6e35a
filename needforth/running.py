"""How many pieces come in the end, on told courses with told counts."""

from needforth.errors import BadCounts, BadCourses
from needforth.kinds import is_count
from needforth.makers import is_course
from needforth.nets import Net, joined_asks
from needforth.pairing import first_wrong, told_by_name
from needforth.webs import check_closed

FIRST_WAY = ((), (0,))


def check_counts(web, counts):
    """Raise the error that is due for a thing that is passed as counts of given pieces."""
    number = first_wrong(counts, lambda name, count: name in web.givens and is_count(count))
    if number is not None:
        raise BadCounts(number)


def check_courses(web, courses):
    """Raise the error that is due for a thing that is passed as courses of the makers of a web."""
    number = first_wrong(courses, lambda name, course: name in web.names and is_course(course, web[name][0]))
    if number is not None:
        raise BadCourses(number)


def asks_on(web, courses):
    """What each row of a closed web asks of its sources on these courses."""
    found = {}
    for name, maker, sources in web.rows:
        course = courses.get(name, FIRST_WAY)
        found[name] = joined_asks(sources, [maker.need(inlet, course) for inlet in range(maker.inlets)])
    return found


def run(web, courses=(), counts=()):
    """The pairs of all rows and the numbers of their pieces that come."""
    check_closed(web)
    check_courses(web, courses)
    check_counts(web, counts)
    lacks = Net(asks_on(web, told_by_name(courses))).lacks_with(told_by_name(counts))
    return tuple([(name, None if lacks[name] is None else lacks[name] - 1) for name in web.names])
