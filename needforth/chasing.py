"""By how much one table leads another one: the first, the last and the greatest lead.

The values at all places of two loops together may be far too many to be looked at
(their number is the least common multiple of two lengths), and the place looked for
may have 60 digits. So the places are taken in lanes: a lane holds the places that are
whole laps of the longer loop apart. In steps of a lap the longer loop only climbs
evenly, so what counts is the least value that the other one has in a window of steps.
"""

from math import gcd

from needforth.forms import value_at, values_from


def ladder_of(row, window):
    """Pairs (width, least entries of so many that follow each other), the widest first."""
    width = 1
    rungs = [(1, row)]
    while 2 * width <= window:
        lesser = rungs[-1][1]
        rungs.append((2 * width, [min(a, b) for a, b in zip(lesser, lesser[width:])]))
        width = 2 * width
    return rungs[::-1]


def least_in(ladder, start, window):
    """The least entry of the window from the start on."""
    width, least = ladder[0]
    return min(least[start], least[start + window - width])


def first_under(ladder, start, limit):
    """The number of the first entry from the start on that is less than the limit; there is one in the window."""
    at = start
    for width, least in ladder:
        if at < len(least) and least[at] >= limit:
            at = at + width
    return at


def last_under(ladder, start, window, limit):
    """The number of the last entry in the window that is less than the limit; there is one."""
    behind = start + window
    for width, least in ladder:
        if behind - width >= start and least[behind - width] >= limit:
            behind = behind - width
    return behind - 1


class Chase:
    """Two tables that go round behind a start, and the leads of the first one there."""

    def __init__(self, first, second, start):
        ahead = values_from(first, start + 1, len(first.loop))
        other = values_from(second, start + 1, len(second.loop))
        climb, climb_other = first.rise, second.rise
        if len(ahead) < len(other):
            # a lead of the first is a lead of the second turned negative, and the lanes go along the longer loop
            ahead, other = [-value for value in other], [-value for value in ahead]
            climb, climb_other = -second.rise, -first.rise
        lanes = gcd(len(ahead), len(other))
        self.start = start
        self.lap = len(ahead)
        self.window = len(other) // lanes
        self.drift = (climb * len(other) - climb_other * len(ahead)) // lanes
        self.ladders = [self.ladder_from(lane, other, climb, climb_other) for lane in range(lanes)]
        self.runners = self.runners_of(ahead, climb, len(other), climb_other)

    def ladder_from(self, lane, other, climb, climb_other):
        """The values of the other table along a lane, less what the longer loop climbs, for two windows of steps."""
        row = []
        for step in range(2 * self.window):
            turn, at = divmod(lane + self.lap * step, len(other))
            row.append(other[at] + turn * climb_other - step * climb)
        return ladder_of(row, self.window)

    def runners_of(self, ahead, climb, many, climb_other):
        """For each place of the longer loop: its lane, the step at which it is there, and what it reaches.

        The lead at a step of the lane is the reach less the entry of the lane.
        """
        lanes = len(self.ladders)
        step_at = [0] * many
        for lane in range(lanes):
            for step in range(self.window):
                step_at[(lane + self.lap * step) % many] = step
        found = []
        for at, value in enumerate(ahead):
            lane = at % lanes
            step = step_at[at % many]
            turns = (lane + self.lap * step - at) // many
            found.append((lane, step, value - step * climb + turns * climb_other))
        return found

    def greatest_lead(self):
        """The greatest lead, if the drift is 0 or less."""
        return max([reach - least_in(self.ladders[lane], step, self.window) for lane, step, reach in self.runners])

    def first_lead(self, k):
        """The least place behind the start with a lead of more than k, None if there is none."""
        places = []
        for at, (lane, step, reach) in enumerate(self.runners):
            ladder = self.ladders[lane]
            limit = reach - k
            least = least_in(ladder, step, self.window)
            if least < limit:
                places.append(self.place_of(at, first_under(ladder, step, limit) - step))
            elif self.drift > 0:
                turns = (least - limit) // self.drift + 1
                found = first_under(ladder, step, limit + turns * self.drift)
                places.append(self.place_of(at, found - step + turns * self.window))
        return min(places, default=None)

    def last_lead(self):
        """The greatest place behind the start with a lead, None if there is none, if the drift is below 0."""
        places = []
        for at, (lane, step, reach) in enumerate(self.runners):
            ladder = self.ladders[lane]
            least = least_in(ladder, step, self.window)
            if least < reach:
                turns = (reach - least - 1) // -self.drift
                found = last_under(ladder, step, self.window, reach + turns * self.drift)
                places.append(self.place_of(at, found - step + turns * self.window))
        return max(places, default=None)

    def place_of(self, at, steps):
        """The place that lies so many laps behind a place of the longer loop."""
        return self.start + 1 + at + steps * self.lap


def drift_of(first, second):
    """More than 0 if the first one of two loops climbs faster, less than 0 if the second one does."""
    return first.rise * len(second.loop) - second.rise * len(first.loop)


def longest_head(first, second):
    """The number of places up to which one of two tables is within its head."""
    return max(len(first.head), len(second.head))


def first_excess_in(first, second, lead, k):
    """The least place up to the place lead at which the first value is greater than the second one and k."""
    pairs = list(zip(values_from(first, 1, lead), values_from(second, 1, lead)))
    for n, (one, other) in enumerate(pairs, start=1):
        if one is None or one > other + k:
            return n
    return None


def first_excess(first, second, k):
    """The least place where the second value is a count and the first one greater than it and k, None if none is."""
    if not second.loop:
        return first_excess_in(first, second, len(second.head), k)
    if not first.loop:
        # behind its head the first one has never, so the place just behind will do
        return first_excess_in(first, second, len(first.head) + 1, k)
    lead = longest_head(first, second)
    found = first_excess_in(first, second, lead, k)
    if found is None:
        found = Chase(first, second, lead).first_lead(k)
    return found


def greatest_excess(first, second):
    """The greatest lead where the second value is a count, 0 or more, None if never is one or none is greatest."""
    if not second.loop:
        if value_at(first, len(second.head)) is None:
            return None
        return greatest_excess_in(first, second, len(second.head))
    if not first.loop or drift_of(first, second) > 0:
        return None
    lead = longest_head(first, second)
    return max(greatest_excess_in(first, second, lead), Chase(first, second, lead).greatest_lead())


def greatest_excess_in(first, second, lead):
    """The greatest lead up to the place lead, 0 or more; all values there are counts."""
    leads = [one - other for one, other in zip(values_from(first, 1, lead), values_from(second, 1, lead))]
    return max([0] + leads)
