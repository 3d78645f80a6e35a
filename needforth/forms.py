"""What the head, the loop and the rise of a table tell.

A table is here any object that has these three as attributes, in the plain form.
A form is a triple of them, perhaps not the plain one. Never is None.
"""


def end_of(table):
    """The least count or never that no value exceeds."""
    if not table.loop or table.rise > 0:
        return None
    return table.loop[-1]


def value_at(table, n):
    """The value at the place n; at never it is the end."""
    if n is None:
        return end_of(table)
    if n == 0:
        return 0
    if n <= len(table.head):
        return table.head[n - 1]
    if not table.loop:
        return None
    lap, at = divmod(n - len(table.head) - 1, len(table.loop))
    return table.loop[at] + lap * table.rise


def values_from(table, start, many):
    """The list of so many values from the place start on, which is 1 or more."""
    found = list(table.head[start - 1:start - 1 + many])
    rest = many - len(found)
    if rest == 0:
        return found
    if not table.loop:
        return found + [None] * rest
    lap, at = divmod(start + len(found) - len(table.head) - 1, len(table.loop))
    laps = (at + rest - 1) // len(table.loop) + 1
    turned = [entry + k * table.rise for k in range(lap, lap + laps) for entry in table.loop]
    return found + turned[at:at + rest]


def many_at_most(climb, limit):
    """How many entries of a tuple that does not fall are at most the limit."""
    low = 0
    high = len(climb)
    while low < high:
        middle = (low + high) // 2
        if climb[middle] <= limit:
            low = middle + 1
        else:
            high = middle
    return low


def last_at_most(table, limit):
    """The greatest count or never at which the value is at most the limit; 0 for the limit -1, which no value keeps."""
    many = many_at_most(table.head, limit)
    if many < len(table.head) or not table.loop:
        return many
    if limit < table.loop[0]:
        return many
    if table.rise == 0:
        return None
    lap, rest = divmod(limit - table.loop[0], table.rise)
    return many + lap * len(table.loop) + many_at_most(table.loop, table.loop[0] + rest)


def shortest_lap(loop, rise):
    """The fewest entries of a loop that goes on in the same way as this one."""
    following = loop[1:] + (loop[0] + rise,)
    steps = [later - entry for entry, later in zip(loop, following)]
    for many in range(1, len(steps) // 2 + 1):
        if len(steps) % many == 0 and steps[many:] == steps[:-many]:
            return many
    return len(steps)


def plain_form(head, loop, rise):
    """The plain form of what the tuples head and loop and the rise tell."""
    if not loop:
        return head, (), 0
    many = shortest_lap(loop, rise)
    lap_rise = rise * many // len(loop)
    entries = head + loop[:many]
    left = len(head)
    while left > 0 and entries[left - 1] + lap_rise == entries[left - 1 + many]:
        left = left - 1
    return entries[:left], entries[left:left + many], lap_rise


def settled_form(values, tail):
    """The form with these values, counts and then never, and behind them always the tail."""
    counts = tuple([value for value in values if value is not None])
    if tail is None or len(counts) < len(values):
        return counts, (), 0
    return counts, (tail,), 0


def spread(values, marks):
    """The list in which each value stands at the places from behind one mark up to the next."""
    found = []
    for value, mark, later in zip(values, marks, marks[1:]):
        found.extend([value] * (later - mark))
    return found
