"""Webs by chance with counts and paces, and what comes of their rows, found the slow way."""

from helpers import some_form, table_of
from making import slow_need
from needforth.courses import greatest
from needforth.makers import Maker

CAP = 120
EASY = Maker(1, (), (("give",),))


def some_counts(chance, web, share=0.6):
    return tuple((given, chance.choice([0, 1, 2, 3, 5, 8, 13, 30])) for given in web.givens if chance.random() < share)


def some_course(chance, maker):
    ways = len(maker.ways)
    return (tuple(chance.randrange(ways) for _ in range(chance.choice([0, 0, 1, 3, 9]))),
            tuple(chance.randrange(ways) for _ in range(chance.randint(1, 4))))


def some_courses(chance, web, share=0.7):
    return tuple((row, some_course(chance, web[row][0])) for row in web if chance.random() < share)


def some_table(chance, step=3):
    return table_of(some_form(chance, 4, step))


def some_paces(chance, names, share=0.7):
    return tuple((name, some_table(chance)) for name in names if chance.random() < share)


def needs_on(web, courses):
    """For each row and inlet the list of what is taken ahead of the pieces up to the cap, None for never."""
    told = dict(courses)
    return {row: [slow_need(maker, inlet, told.get(row, ((), (0,))), CAP) for inlet in range(maker.inlets)]
            for row, maker, sources in web.rows}


def most_needs(web):
    """The same for the greatest needs."""
    return {row: [[greatest(maker, inlet)(n) for n in range(1, CAP + 1)] for inlet in range(maker.inlets)]
            for row, maker, sources in web.rows}


def slow_numbers(web, needs, counts):
    """The numbers of all rows by the words of [22], from below, piece by piece; None from the cap on."""
    told = dict(counts)
    numbers = {row: 0 for row in web}
    changed = True
    while changed:
        changed = False
        for row, maker, sources in web.rows:
            here = [told.get(source) if source in web.givens else numbers[source] for source in sources]
            here = [None if number == CAP else number for number in here]
            while numbers[row] < CAP and all(
                    need[numbers[row]] is not None and (number is None or need[numbers[row]] <= number)
                    for need, number in zip(needs[row], here)):
                numbers[row] += 1
                changed = True
    return {row: None if number == CAP else number for row, number in numbers.items()}


def within_cap(numbers):
    return all(number is None or number < CAP // 6 for number in numbers)
