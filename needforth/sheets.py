"""Sheets: what a failure of a saying at one place would need."""

from needforth.errors import BadCount, TooMany
from needforth.facts import check_facts
from needforth.kinds import is_count
from needforth.linking import Links
from needforth.termforms import check_saying
from needforth.terms import samples_in
from needforth.walking import NOUGHT, PLACE, Walk

MOST_SAMPLES = 12


def links_of(saying, facts):
    """The links of the facts, or the error that is due for a saying and facts that are asked about."""
    check_saying(saying)
    if samples_in(saying[0]) + samples_in(saying[1]) > MOST_SAMPLES:
        raise TooMany("sample")
    check_facts(facts)
    links = Links(facts)
    links.check_odds()
    return links


def check_cap(cap):
    """Raise the error that is due for a thing that is passed as a cap."""
    if cap is not None and not is_count(cap):
        raise BadCount(cap)


def climb_together(walk, sample, other):
    """If the place of a sample is at most that of another one, so is its value."""
    place, value = sample
    place_there, value_there = other
    walk.either((place_there, place, -1), (value, value_there, 0))


def compare_samples(walk):
    """The samples of one name do not fall."""
    for samples in list(walk.samples.values()):
        for number, sample in enumerate(samples):
            for other in samples[number + 1:]:
                climb_together(walk, sample, other)
                climb_together(walk, other, sample)


def keep_within(walk, links):
    """The samples of each name lie between its floor and its ceiling."""
    for name, samples in list(walk.samples.items()):
        if name in links.ceilings:
            k = links.ceilings[name]
            for place, value in samples:
                if k >= 0:
                    walk.bind(value, place, k)
                else:
                    walk.either((value, place, k), (value, NOUGHT, 0))
        if name in links.floors:
            for place, value in samples:
                walk.unless_nought(place, (place, value, -links.floors[name]))


def compare_linked(walk, links):
    """The samples of a name lie below those of the names to which it is linked."""
    for name, samples in list(walk.samples.items()):
        for other, samples_there in list(walk.samples.items()):
            if name != other and links.linked(name, other):
                for sample in samples:
                    for sample_there in samples_there:
                        climb_together(walk, sample, sample_there)


def walk_saying(saying, links, cap):
    """All that is made for a right saying."""
    walk = Walk()
    walk.bind(NOUGHT, PLACE, -1)
    if cap is not None:
        walk.bind(PLACE, NOUGHT, cap)
    greater = walk.walk(saying[0], PLACE)
    lesser = walk.walk(saying[1], PLACE)
    walk.bind(lesser, greater, -1)
    compare_samples(walk)
    keep_within(walk, links)
    compare_linked(walk, links)
    return walk


class Sheet:
    """Points, bounds that must hold, and clauses of each of which one of two bounds must hold."""

    def __init__(self, saying, facts=(), cap=None):
        links = links_of(saying, facts)
        check_cap(cap)
        walk = walk_saying(saying, links, cap)
        self.points = walk.points
        self.bounds = tuple(walk.bounds)
        self.clauses = tuple(walk.clauses)
        self.samples = tuple([(name, tuple(samples)) for name, samples in walk.samples.items()])
