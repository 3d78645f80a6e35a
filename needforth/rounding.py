"""The rounds with which a maker takes the most, or the least, at an inlet ahead of each piece that it gives.

How much whole rounds take hangs only on how often each way is gone. Let the best way be one that takes
the most (or the least) for each piece it gives, p pieces in a round. Of any p rounds of other ways some give
a multiple of p pieces together, and rounds of the best way give these and take no less (or no more). So with
more pieces than p - 1 rounds of other ways give, a round of the best way may always be among them, and from
there on the values go on in a line that comes round with this way.
"""

from needforth.taking import Round


class Outlook:
    """What is taken at most, or at least, at one inlet of a maker on all its courses.

    For each number of pieces that whole rounds give, `taken` is what they take then, and `lasts` the last way.
    For each piece given in a round, `ahead` is what the rounds take ahead of it, and `choices` the pair of
    the way that gives it and the number of pieces that the rounds ahead give.
    """

    def __init__(self, maker, inlet, most):
        self.most = most
        self.begin = Round(maker.begin, inlet)
        self.rounds = [Round(way, inlet) for way in maker.ways]
        self.giving = [number for number, one in enumerate(self.rounds) if one.marks]
        self.taken = [0]
        self.lasts = [None]
        self.ahead = [0]
        self.choices = [None]

    def stopping(self):
        """A way that goes on for ever without giving, None if there is none or if this is not looked for."""
        if not self.most:
            return None if self.giving else 0
        for number, one in enumerate(self.rounds):
            if not one.marks:
                return number
        return None

    def look(self, many):
        """Find out what is taken for so many pieces."""
        self.taken = [0] + [None] * many
        self.lasts = [None] * (many + 1)
        self.ahead = [0] + [None] * many
        self.choices = [None] * (many + 1)
        for given in range(many):
            if self.taken[given] is not None:
                for number in self.giving:
                    self.go_on(given, number, many)

    def go_on(self, given, number, many):
        """Let a round of a way come behind rounds that give so many pieces."""
        taken = self.taken[given]
        one = self.rounds[number]
        marks = one.marks[:many - given]
        for piece, mark in enumerate(marks, start=given + 1):
            if self.better(taken + mark, self.ahead[piece]):
                self.ahead[piece] = taken + mark
                self.choices[piece] = (number, given)
        behind = given + len(one.marks)
        if behind <= many and self.better(taken + one.taken, self.taken[behind]):
            self.taken[behind] = taken + one.taken
            self.lasts[behind] = number

    def better(self, value, other):
        """Whether a value is to be taken in the place of another one, or of none."""
        if other is None:
            return True
        return value > other if self.most else value < other

    def best_way(self):
        """The round of a way that takes the most, or the least, for each piece that it gives."""
        best = self.rounds[self.giving[0]]
        for number in self.giving[1:]:
            one = self.rounds[number]
            if self.better(one.taken * len(best.marks), best.taken * len(one.marks)):
                best = one
        return best

    def form(self):
        """The head, the loop and the rise of the table of what is taken."""
        head = list(self.begin.marks)
        if self.stopping() is not None:
            return head, (), 0
        best = self.best_way()
        lap = len(best.marks)
        longest = max([len(self.rounds[number].marks) for number in self.giving])
        lead = longest if len(self.giving) == 1 else lap * longest
        self.look(lead + lap)
        values = [self.begin.taken + value for value in self.ahead[1:]]
        return head + values[:lead], values[lead:], best.taken

    def course(self, piece):
        """A course on which so much is taken ahead of a piece."""
        begun = len(self.begin.marks)
        if piece <= begun:
            return (), (0,)
        stopping = self.stopping()
        if stopping is not None:
            return (), (stopping,)
        self.look(piece - begun)
        number, given = self.choices[piece - begun]
        first = []
        while given > 0:
            # the rounds of the way that gives the piece may all come last, and need not be told one by one
            if self.lasts[given] != number:
                first.append(self.lasts[given])
            given = given - len(self.rounds[self.lasts[given]].marks)
        return tuple(first), (number,)
