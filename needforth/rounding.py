"""The rounds with which a maker takes the most, or the least, at an inlet ahead of each piece that it gives.

How much whole rounds take hangs only on how often each way is gone. Let the best way be one that takes
the most (or the least) for each piece it gives, p pieces in a round. Of any p rounds of other ways some give
a multiple of p pieces together, and rounds of the best way give these and take no less (or no more). So with
more pieces than p - 1 rounds of other ways give, a round of the best way may always be among them, and from
there on the values go on in a line that comes round with this way.
"""

from needforth.taking import Round


class Outlook:
    """What is taken at most, or at least, at one inlet of a maker on all its courses.

    For each number of pieces that whole rounds give, `taken` is what they take then, in shares, and `lasts` the last
    way. A piece is so many shares that the shares that are taken off for rounds never make up for it.
    """

    def __init__(self, maker, inlet, most):
        self.most = most
        self.begin = Round(maker.begin, inlet)
        self.rounds = [Round(way, inlet) for way in maker.ways]
        self.giving = [number for number, one in enumerate(self.rounds) if one.marks]
        self.shares = 1
        self.taken = [0]
        self.lasts = [None]

    def stopping(self):
        """A way that goes on for ever without giving, None if there is none or if this is not looked for."""
        if not self.most:
            return None if self.giving else 0
        for number, one in enumerate(self.rounds):
            if not one.marks:
                return number
        return None

    def look(self, many, free):
        """Find out what rounds take for so many pieces; of equal ones those with the fewest rounds of ways not free."""
        self.shares = many + 1
        toll = -1 if self.most else 1
        tolls = [0 if number == free else toll for number in range(len(self.rounds))]
        self.taken = [0] + [None] * many
        self.lasts = [None] * (many + 1)
        for given in range(many):
            for number in self.giving:
                behind = given + len(self.rounds[number].marks)
                if self.taken[given] is not None and behind <= many:
                    taken = self.taken[given] + self.rounds[number].taken * self.shares + tolls[number]
                    if self.better(taken, self.taken[behind]):
                        self.taken[behind] = taken
                        self.lasts[behind] = number

    def better(self, value, other):
        """Whether a value is to be taken in the place of another one, or of none."""
        if other is None:
            return True
        return value > other if self.most else value < other

    def best_way(self):
        """The round of a way that takes the most, or the least, for each piece that it gives."""
        best = self.rounds[self.giving[0]]
        for number in self.giving[1:]:
            one = self.rounds[number]
            if self.better(one.taken * len(best.marks), best.taken * len(one.marks)):
                best = one
        return best

    def ahead_of(self, piece, number):
        """What is taken, in shares, ahead of a piece that a way gives, and the number of pieces of the rounds ahead."""
        best = None
        ahead = 0
        for at, mark in enumerate(self.rounds[number].marks[:piece]):
            given = piece - 1 - at
            if self.taken[given] is not None and self.better(self.taken[given] + mark * self.shares, best):
                best = self.taken[given] + mark * self.shares
                ahead = given
        return best, ahead

    def values_up_to(self, many):
        """What is taken ahead of each of so many pieces in all rounds."""
        best = [None] * many
        for given in range(many):
            if self.taken[given] is not None:
                for number in self.giving:
                    for at, mark in enumerate(self.rounds[number].marks[:many - given], start=given):
                        taken = self.taken[given] + mark * self.shares
                        if self.better(taken, best[at]):
                            best[at] = taken
        # what the tolls took off or put on is less than a piece
        return [-(-taken // self.shares) if self.most else taken // self.shares for taken in best]

    def form(self):
        """The head, the loop and the rise of the table of what is taken."""
        head = list(self.begin.marks)
        if self.stopping() is not None:
            return head, (), 0
        best = self.best_way()
        lap = len(best.marks)
        longest = max([len(self.rounds[number].marks) for number in self.giving])
        lead = longest if len(self.giving) == 1 else lap * longest
        self.look(lead + lap, None)
        values = [self.begin.taken + value for value in self.values_up_to(lead + lap)]
        return head + values[:lead], values[lead:], best.taken

    def course(self, piece):
        """A course on which so much is taken ahead of a piece, one with few rounds that must be told one by one."""
        begun = len(self.begin.marks)
        if piece <= begun:
            return (), (0,)
        stopping = self.stopping()
        if stopping is not None:
            return (), (stopping,)
        best = None
        found = None
        for number in self.giving:
            # the rounds of the way that gives the piece may all come last, and need not be told
            self.look(piece - begun, number)
            taken, ahead = self.ahead_of(piece - begun, number)
            if taken is not None and self.better(taken, best):
                best = taken
                found = (self.others_ahead(ahead, number), (number,))
        return found

    def others_ahead(self, given, free):
        """The numbers of the other ways in the rounds that give so many pieces."""
        found = []
        while given > 0:
            if self.lasts[given] != free:
                found.append(self.lasts[given])
            given = given - len(self.rounds[self.lasts[given]].marks)
        return tuple(found)
