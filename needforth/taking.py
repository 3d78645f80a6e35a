"""What a maker takes at one inlet in the deeds of a round."""


class Round:
    """How many pieces are taken at an inlet in some deeds, and how many of them ahead of each piece that is given."""

    def __init__(self, deeds, inlet):
        taken = 0
        marks = []
        for deed in deeds:
            if deed == "give":
                marks.append(taken)
            elif deed == inlet:
                taken = taken + 1
        self.taken = taken
        self.marks = tuple(marks)


def marks_along(rounds, taken):
    """The list of what is taken ahead of each given piece in several rounds, and what is taken behind them all."""
    found = []
    for one in rounds:
        found.extend([taken + mark for mark in one.marks])
        taken = taken + one.taken
    return found, taken
