"""What the verdicts of the program have in common."""


class Verdict:
    """A yes or a no, which is also the truth value of the object."""

    def __init__(self, holds):
        self.holds = holds

    def __bool__(self):
        return bool(self.holds)
