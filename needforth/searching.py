"""The search for counts for the points of a sheet, and for a tree of cases that shows that there are none.

A side of a clause is 0 or 1. Sets of sides are integers: a bit for each side of each clause.
"""

from needforth.distances import no_distances


class Refuted:
    """A part of a tree of cases, and the sides that are assumed above it and that its rings use."""

    def __init__(self, part, used):
        self.part = part
        self.used = used


def bit_of(clause, side):
    """The set of one side of one clause."""
    return 1 << (2 * clause + side)


def uses(refuted, clause, side):
    """Whether a side of a clause is used."""
    return refuted.used & bit_of(clause, side) > 0


def split_between(clause, first, second):
    """What refutes a clause if the two refute its sides; one of them alone if it does not need its side."""
    if not uses(first, clause, 0):
        return first
    if not uses(second, clause, 1):
        return second
    used = (first.used ^ bit_of(clause, 0)) | (second.used ^ bit_of(clause, 1))
    return Refuted(("split", clause, first.part, second.part), used)


def split_at(clause, side, refuted, other):
    """The same, where the one that is told first refutes this side."""
    if side == 0:
        return split_between(clause, refuted, other)
    return split_between(clause, other, refuted)


class Ground:
    """What is assumed at a node: the distances that follow, and the clauses that are open there."""

    def __init__(self, distances, clauses):
        self.distances = distances
        self.clauses = clauses


class Search:
    """A search through the cases of a sheet; counts are those that have been found, None if there are none."""

    def __init__(self, sheet):
        self.sheet = sheet
        self.anyway = len(sheet.bounds)
        self.bounds = list(sheet.bounds)
        for clause in sheet.clauses:
            self.bounds.extend(clause)
        self.counts = None

    def refuted(self):
        """What refutes the whole sheet, None if counts have been found."""
        distances = no_distances(self.sheet.points, self.bounds, self.anyway)
        for number in range(self.anyway):
            if distances.barred(self.bounds[number]):
                return self.ring_of(distances, number)
            distances.admit(number)
        return self.refute(Ground(distances, list(range(len(self.sheet.clauses)))))

    def ring_of(self, distances, number):
        """The ring that refutes a bound."""
        numbers = distances.ring_through(number)
        used = 0
        for bound in numbers:
            if bound >= self.anyway:
                used = used | 1 << (bound - self.anyway)
        return Refuted(("ring", tuple([self.bounds[bound] for bound in numbers])), used)

    def bound_of(self, clause, side):
        """The number of the bound of a side of a clause."""
        return self.anyway + 2 * clause + side

    def refute(self, ground):
        """What refutes a node, None if counts have been found; changes the ground."""
        forced = []
        refuted = self.settle(ground, forced)
        if refuted is None:
            counts = ground.distances.least_counts()
            broken = [clause for clause in ground.clauses if self.breaks(counts, clause)]
            if not broken:
                self.counts = counts
                return None
            refuted = self.refute_sides(ground, self.tightest(ground, broken))
        if refuted is None:
            return None
        for clause, side, ring in forced[::-1]:
            refuted = split_at(clause, side, refuted, ring)
        return refuted

    def settle(self, ground, forced):
        """Assume whatever clauses leave one side alone, and note it; what refutes a clause both sides of which fail."""
        settled = False
        while not settled:
            settled = True
            clauses = []
            for clause in ground.clauses:
                if self.sure(ground, clause):
                    continue
                sides = self.sides_left(ground, clause)
                if not sides:
                    rings = [self.ring_of(ground.distances, self.bound_of(clause, side)) for side in (0, 1)]
                    return split_between(clause, rings[0], rings[1])
                if len(sides) == 1:
                    settled = False
                    self.force(ground, clause, sides[0], forced)
                else:
                    clauses.append(clause)
            ground.clauses = clauses
        return None

    def sure(self, ground, clause):
        """Whether a side of a clause holds anyway."""
        return any([ground.distances.sure(bound) for bound in self.sheet.clauses[clause]])

    def sides_left(self, ground, clause):
        """The sides of a clause that are not barred."""
        bounds = self.sheet.clauses[clause]
        return [side for side in (0, 1) if not ground.distances.barred(bounds[side])]

    def force(self, ground, clause, side, forced):
        """Assume the side of a clause that is left, and note what refutes the other one."""
        forced.append((clause, side, self.ring_of(ground.distances, self.bound_of(clause, 1 - side))))
        ground.distances.admit(self.bound_of(clause, side))

    def breaks(self, counts, clause):
        """Whether counts keep neither side of a clause."""
        for first, second, more in self.sheet.clauses[clause]:
            if counts[first] <= counts[second] + more:
                return False
        return True

    def tightest(self, ground, clauses):
        """The clause whose sides have the least room together."""
        rooms = []
        for clause in clauses:
            first, second = self.sheet.clauses[clause]
            rooms.append((ground.distances.room(first) + ground.distances.room(second), clause))
        return min(rooms)[1]

    def refute_sides(self, ground, clause):
        """What refutes both sides of a clause, None if counts have been found."""
        rooms = [ground.distances.room(bound) for bound in self.sheet.clauses[clause]]
        # counts are found sooner on the side with more room
        side = 0 if rooms[0] >= rooms[1] else 1
        refuted = self.refute_side(ground, clause, side)
        if refuted is None or not uses(refuted, clause, side):
            return refuted
        other = self.refute_side(ground, clause, 1 - side)
        if other is None:
            return None
        return split_at(clause, side, refuted, other)

    def refute_side(self, ground, clause, side):
        """What refutes a side of a clause, None if counts have been found."""
        distances = ground.distances.copied()
        distances.admit(self.bound_of(clause, side))
        return self.refute(Ground(distances, [other for other in ground.clauses if other != clause]))


def nodes_of(part):
    """The tree of cases of a part that refutes a whole sheet."""
    nodes = []
    pending = [(part, None, None)]
    while pending:
        part, above, place = pending.pop()
        if above is not None:
            nodes[above][place] = len(nodes)
        if part[0] == "split":
            pending.append((part[3], len(nodes), 3))
            pending.append((part[2], len(nodes), 2))
        nodes.append(list(part))
    return tuple([tuple(node) for node in nodes])


def search(sheet):
    """A pair: the tree of cases for a sheet and None, or None and the counts for its points."""
    trial = Search(sheet)
    refuted = trial.refuted()
    if refuted is None:
        return None, trial.counts
    return nodes_of(refuted.part), None
