"""The tightest bounds between points that follow from bounds that hold together."""

# a bound that is assumed weighs one more than others, so that of equally tight chains one that assumes little is taken
STEP = 4096
FAR = 1000000000000


class Distances:
    """For each two points how far the first one may be above the second one, and where the chain to it begins.

    All bounds that may come up are told ahead, those that hold anyway first; they are named by their numbers.
    """

    def __init__(self, bounds, anyway, rows, hops):
        self.bounds = bounds
        self.anyway = anyway
        self.rows = rows
        self.hops = hops

    def copied(self):
        """Another object with the same distances."""
        return Distances(self.bounds, self.anyway, list(self.rows), list(self.hops))

    def weight(self, number):
        """What a bound weighs in a chain."""
        return self.bounds[number][2] * STEP + (0 if number < self.anyway else 1)

    def barred(self, bound):
        """Whether a bound cannot hold."""
        return self.rows[bound[1]][bound[0]] + bound[2] * STEP < 0

    def sure(self, bound):
        """Whether a bound surely holds."""
        return self.rows[bound[0]][bound[1]] < (bound[2] + 1) * STEP

    def room(self, bound):
        """How much less a bound could let before it is barred."""
        return self.rows[bound[1]][bound[0]] // STEP + bound[2]

    def admit(self, number):
        """Let a bound hold that is not barred."""
        first, second, _ = self.bounds[number]
        weight = self.weight(number)
        beyond = self.rows[second]
        for point in range(len(self.rows)):
            reach = self.rows[point][first] + weight
            # no chain through this bound is tighter if that to its own end is not
            if self.rows[point][first] < FAR and reach < self.rows[point][second]:
                hop = number if point == first else self.hops[point][first]
                self.shorten(point, reach, beyond, hop)

    def shorten(self, point, reach, beyond, hop):
        """Take the chains of a point that go on beyond a bound where they are tighter."""
        row = list(self.rows[point])
        hops = list(self.hops[point])
        for other, rest in enumerate(beyond):
            if rest < FAR and reach + rest < row[other]:
                row[other] = reach + rest
                hops[other] = hop
        self.rows[point] = row
        self.hops[point] = hops

    def ring_through(self, number):
        """The numbers of the bounds of a ring through a bound that is barred, this one first."""
        first, point, _ = self.bounds[number]
        found = [number]
        while point != first:
            hop = self.hops[point][first]
            found.append(hop)
            point = self.bounds[hop][1]
        return found

    def least_counts(self):
        """The least counts for all points with which the bounds hold."""
        return [-(distance // STEP) for distance in self.rows[0]]


def no_distances(points, bounds, anyway):
    """The distances between so many points while no bound holds."""
    rows = [[0 if point == other else FAR for other in range(points)] for point in range(points)]
    return Distances(bounds, anyway, rows, [[None] * points for _ in range(points)])
