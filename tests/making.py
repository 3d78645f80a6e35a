"""Makers and webs by chance, and what makers take, found the slow way."""

from needforth.makers import Maker
from needforth.webs import Web


def some_deeds(chance, inlets, most, gives=1):
    return tuple(chance.choice(list(range(inlets)) + ["give"] * gives) for _ in range(chance.randint(0, most)))


def some_maker(chance, most=6, inlets=None, stopping=0.1):
    """A maker with up to 4 ways; some of them may not give."""
    inlets = inlets or chance.randint(1, 3)
    ways = []
    for _ in range(chance.randint(1, 4)):
        way = list(some_deeds(chance, inlets, most, chance.randint(1, 3)))
        way.insert(chance.randint(0, len(way)), 0 if chance.random() < stopping else "give")
        ways.append(tuple(way))
    return Maker(inlets, some_deeds(chance, inlets, 5), tuple(ways))


def slow_need(maker, inlet, course, many):
    """The list of what is taken ahead of the pieces up to so many, None for pieces that never come."""
    found, taken = [], 0
    first, then = course
    deeds = list(maker.begin) + [deed for number in first for deed in maker.ways[number]]
    while len(found) < many:
        for deed in deeds:
            if deed == "give":
                found.append(taken)
            elif deed == inlet:
                taken += 1
        deeds = [deed for number in then for deed in maker.ways[number]]
        if "give" not in deeds:
            break
    return (found + [None] * many)[:many]


def some_web(chance, open_makers):
    givens = list("gh")[:chance.randint(0, 2)]
    made = list("uvwxyz")[:chance.randint(1, 6)]
    chance.shuffle(made)
    rows = []
    for name in made:
        maker = some_maker(chance, 3, chance.choice([1, 1, 2, 3]), 0.02)
        sources = tuple(chance.choice(givens + made) for _ in range(maker.inlets))
        rows.append((name, name if open_makers else maker, sources))
    return Web(givens, rows)
