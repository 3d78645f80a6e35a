"""The errors of the program."""


class NeedforthError(ValueError):
    """Any error of the program."""


class Unreadable(NeedforthError):
    """Any error of a reader."""


class Impossible(NeedforthError):
    """There is nothing of the kind asked for."""


class BadText(Unreadable):
    """A text is wrong at a place."""

    def __init__(self, place):
        self.place = place


class BadLine(Unreadable):
    """A line of a web is wrong."""

    def __init__(self, line):
        self.line = line


class AtOdds(Impossible):
    """Facts or bounds cannot hold together."""

    def __init__(self, thing):
        self.thing = thing


class NoPace(Impossible):
    """No paces of givens let a row keep up a pace."""

    def __init__(self, stage):
        self.stage = stage


class NoHole(Impossible):
    """A web has no hole."""


class NoWay(Impossible):
    """There is no such way or ring."""

    def __init__(self, thing):
        self.thing = thing


class NotShift(Impossible):
    """A row with a known maker asks something that is no shift."""

    def __init__(self, row):
        self.row = row


class NotWhole(Impossible):
    """A plan is not whole."""

    def __init__(self, row):
        self.row = row


class Ringed(Impossible):
    """A row waits for itself."""

    def __init__(self, row):
        self.row = row


class Unseen(Impossible):
    """No maker fits a sight."""

    def __init__(self, number):
        self.number = number


class NothingDone(Impossible):
    """There is no deed to take back."""


class TooMany(NeedforthError):
    """More things of a kind come up than are let."""

    def __init__(self, word):
        self.word = word


class BadCount(NeedforthError):
    """A thing is no count."""

    def __init__(self, thing):
        self.thing = thing


class BadTerm(NeedforthError):
    """A thing is no term."""

    def __init__(self, thing):
        self.thing = thing


class BadSaying(NeedforthError):
    """A thing is no saying."""

    def __init__(self, thing):
        self.thing = thing


class BadInlet(NeedforthError):
    """A thing is no number of an inlet."""

    def __init__(self, thing):
        self.thing = thing


class BadCourse(NeedforthError):
    """A thing is no course."""

    def __init__(self, thing):
        self.thing = thing


class Lacking(NeedforthError):
    """A thing is not there."""

    def __init__(self, thing):
        self.thing = thing


class BadClaim(NeedforthError):
    """A thing is no claim."""

    def __init__(self, thing):
        self.thing = thing


class BadTable(NeedforthError):
    """A part of a table is wrong."""

    def __init__(self, word):
        self.word = word


class BadMaker(NeedforthError):
    """A part of a maker is wrong."""

    def __init__(self, word):
        self.word = word


class BadBound(NeedforthError):
    """Bounds of one side are wrong."""

    def __init__(self, word):
        self.word = word


class BadTables(NeedforthError):
    """One of several tables is wrong."""

    def __init__(self, number):
        self.number = number


class BadFact(NeedforthError):
    """One of several facts is wrong."""

    def __init__(self, number):
        self.number = number


class BadName(NeedforthError):
    """The name of a given is wrong."""

    def __init__(self, number):
        self.number = number


class BadRow(NeedforthError):
    """A row is wrong."""

    def __init__(self, number):
        self.number = number


class BadMakers(NeedforthError):
    """One of several makers is wrong."""

    def __init__(self, number):
        self.number = number


class BadCounts(NeedforthError):
    """One of several counts is wrong."""

    def __init__(self, number):
        self.number = number


class BadCourses(NeedforthError):
    """One of several courses is wrong."""

    def __init__(self, number):
        self.number = number


class BadPaces(NeedforthError):
    """One of several paces is wrong."""

    def __init__(self, number):
        self.number = number


class BadPlan(NeedforthError):
    """A pair of a plan is wrong."""

    def __init__(self, number):
        self.number = number


class BadSight(NeedforthError):
    """A sight is wrong."""

    def __init__(self, number):
        self.number = number


class BadDeed(NeedforthError):
    """A deed is wrong."""

    def __init__(self, number):
        self.number = number


class NoClaim(NeedforthError):
    """No claim has this number."""

    def __init__(self, number):
        self.number = number


class Missing(NeedforthError):
    """A name is told nothing."""

    def __init__(self, name):
        self.name = name


class Twice(NeedforthError):
    """A name stands twice."""

    def __init__(self, name):
        self.name = name


class Open(NeedforthError):
    """A maker is unknown."""

    def __init__(self, name):
        self.name = name


class BadPace(NeedforthError):
    """A thing is no pace."""


class NoWeb(NeedforthError):
    """A thing is no web."""
