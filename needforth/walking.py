"""How terms are walked: the points, bounds, clauses and samples that a sheet gets from them."""

from needforth.termtext import text_of

NOUGHT = 0
PLACE = 1


class Walk:
    """What has been made so far, and the answers of the terms that have been walked."""

    def __init__(self):
        self.points = 2
        self.bounds = []
        self.clauses = []
        self.samples = {}
        self.answers = {}

    def bind(self, point, other, more):
        """The count of a point is at most that of the other one plus so much."""
        self.bounds.append((point, other, more))

    def either(self, bound, other):
        """One of two bounds must hold."""
        self.clauses.append((bound, other))

    def new_point(self):
        """The number of a new point."""
        point = self.points
        self.points = point + 1
        self.bind(NOUGHT, point, 0)
        return point

    def new_steps(self):
        """Two new points, the second one a step behind the first one."""
        point = self.new_point()
        behind = self.new_point()
        self.bind(behind, point, 1)
        self.bind(point, behind, -1)
        return point, behind

    def keep_nought(self, point, answer):
        """At the place 0 the value is 0."""
        self.either((NOUGHT, point, -1), (answer, NOUGHT, 0))

    def unless_nought(self, point, bound):
        """A bound must hold if the place is not 0."""
        self.either((point, NOUGHT, 0), bound)

    def walk(self, term, point):
        """Walk a term from a point and return its answer."""
        # a text tells a term, of whatever form, and does not lie deep as a term may
        key = (text_of(term, 0), point)
        if key not in self.answers:
            self.answers[key] = self.answer_of(term, point)
        return self.answers[key]

    def answer_of(self, term, point):
        """Walk a term that was not walked before from this point."""
        if isinstance(term, str):
            return self.walk_name(term, point)
        word = term[0]
        if word == "shift":
            return self.walk_shift(term[1], point)
        if word == "behind":
            return self.walk(term[1], self.walk(term[2], point))
        if word == "both":
            return self.walk_both(term, point)
        if word == "either":
            return self.walk_either(term, point)
        if word == "turn":
            return self.walk_turn(term, point)
        if word == "under":
            return self.walk_under(term, point)
        return self.walk_over(term, point)

    def walk_name(self, name, point):
        """Walk a name: it gets a sample."""
        answer = self.new_point()
        self.samples.setdefault(name, []).append((point, answer))
        self.keep_nought(point, answer)
        return answer

    def walk_shift(self, k, point):
        """Walk a shift."""
        if k == 0:
            return point
        answer = self.new_point()
        if k > 0:
            self.bind(answer, point, k)
            self.keep_nought(point, answer)
            self.unless_nought(point, (point, answer, -k))
        else:
            self.bind(point, answer, -k)
            self.either((answer, point, k), (answer, NOUGHT, 0))
        return answer

    def walk_both(self, term, point):
        """Walk the greater one of two terms."""
        first = self.walk(term[1], point)
        second = self.walk(term[2], point)
        answer = self.new_point()
        self.bind(first, answer, 0)
        self.bind(second, answer, 0)
        self.either((answer, first, 0), (answer, second, 0))
        return answer

    def walk_either(self, term, point):
        """Walk the lesser one of two terms."""
        first = self.walk(term[1], point)
        second = self.walk(term[2], point)
        answer = self.new_point()
        self.bind(answer, first, 0)
        self.bind(answer, second, 0)
        self.either((first, answer, 0), (second, answer, 0))
        return answer

    def walk_turn(self, term, point):
        """Walk a turn: the greatest place whose value is less than the point."""
        answer, behind = self.new_steps()
        first = self.walk(term[1], answer)
        second = self.walk(term[1], behind)
        self.bind(point, second, 0)
        self.keep_nought(point, answer)
        self.unless_nought(point, (first, point, -1))
        return answer

    def walk_under(self, term, point):
        """Walk an under: the greatest place at which the first term is at most the second one here."""
        limit = self.walk(term[2], point)
        answer, behind = self.new_steps()
        first = self.walk(term[1], answer)
        second = self.walk(term[1], behind)
        self.bind(first, limit, 0)
        self.keep_nought(point, answer)
        self.unless_nought(point, (limit, second, -1))
        return answer

    def walk_over(self, term, point):
        """Walk an over: the first term at the least place at which the second one reaches the point."""
        ahead, behind = self.new_steps()
        first = self.walk(term[2], ahead)
        second = self.walk(term[2], behind)
        limit = self.walk(term[1], behind)
        answer = self.new_point()
        self.bind(answer, limit, 0)
        self.keep_nought(point, answer)
        self.unless_nought(point, (limit, answer, 0))
        self.unless_nought(point, (first, point, -1))
        self.unless_nought(point, (point, second, 0))
        return answer
