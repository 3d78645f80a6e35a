"""What several tests need: tables told by hand, and their values found the slow way."""

import random

from needforth.tables import Table

NEVER = 10 ** 9


def form_of(table):
    return table.head, table.loop, table.rise


def slow_value(form, n):
    """The value at n of a form, NEVER for never, by the words of [2]."""
    head, loop, rise = form
    if n == 0:
        return 0
    if n <= len(head):
        return head[n - 1]
    if not loop:
        return NEVER
    laps = (n - len(head) - 1) // len(loop)
    return loop[n - laps * len(loop) - len(head) - 1] + laps * rise


def slow_values(form, many):
    return [slow_value(form, n) for n in range(many)]


def slow_end(form):
    head, loop, rise = form
    if not loop or rise:
        return NEVER
    return loop[-1]


def slow_at(form, n):
    return slow_end(form) if n >= NEVER else slow_value(form, n)


def slow_last(form, limit):
    """The greatest m, a count or never, with a value that is at most the limit."""
    if slow_end(form) <= limit:
        return NEVER
    m = 0
    while slow_value(form, m + 1) <= limit:
        m += 1
    return m


def slow_plain(form):
    """The plain form of a form, found by trying all lengths of loops and heads."""
    head, loop, rise = form
    if not loop:
        return form
    reach = len(head) + 2 * len(loop) + 2
    for many in range(1, len(loop) + 1):
        up = slow_value(form, len(head) + 1 + many) - slow_value(form, len(head) + 1)
        for left in range(len(head) + 1):
            if all(slow_value(form, n + many) == slow_value(form, n) + up for n in range(left + 1, reach)):
                values = [slow_value(form, n) for n in range(1, left + many + 1)]
                return tuple(values[:left]), tuple(values[left:]), up
    return form


def told(value):
    return None if value >= NEVER else value


def some_form(chance, entries, step):
    """Any head, loop and rise of few entries."""
    last = 0
    head = []
    for _ in range(chance.randint(0, entries)):
        last += chance.choice([0, 0, 1, chance.randint(0, step)])
        head.append(last)
    kind = chance.randint(0, 5)
    if kind == 0:
        return tuple(head), (), 0
    loop = []
    for _ in range(chance.randint(1, entries)):
        last += chance.choice([0, 0, 1, chance.randint(0, step)])
        loop.append(last)
    if kind == 1:
        return tuple(head), (loop[0],) * len(loop), 0
    return tuple(head), tuple(loop), loop[-1] - loop[0] + chance.randint(0, step)


def some_pairs(seed, many, entries=4, step=3):
    """Pairs of forms, the same ones for the same seed."""
    chance = random.Random(seed)
    return [(some_form(chance, entries, step), some_form(chance, entries, step)) for _ in range(many)]


def table_of(form):
    return Table(*form)


def raised(wanted, call, *args, **more):
    """The attributes of the error that a call raises, which must be of just this class."""
    try:
        call(*args, **more)
    except wanted as error:
        assert error.__class__ is wanted, error.__class__
        return vars(error)
    raise AssertionError("no " + wanted.__name__)
