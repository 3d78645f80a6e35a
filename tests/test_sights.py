"""[31] and [32]: sights, bounds, the tables that keep them, and what surely comes of them."""

import random
import unittest

from helpers import raised
from needforth.comparing import below, parting
from needforth.errors import AtOdds, BadBound, BadCount, BadSight, TooMany
from needforth.makers import Maker
from needforth.sights import Fits
from needforth.tables import Table
from needforth.tabletext import read_table, write_table
from rowing import some_table

NEVER = Table(())
NOUGHT = Table((), (0,), 0)


def texts(fits):
    return [write_table(fits.least), write_table(fits.greatest)]


def slow_given(table, taken, limit=80):
    """How many pieces come from so many taken ones by the words of [32], None if all up to the limit do."""
    m = 0
    while m < limit and table(m + 1) is not None and table(m + 1) <= taken:
        m += 1
    return None if m == limit else m


def first_odds(above, lower):
    """The least pair of numbers of bounds that are at odds."""
    pairs = [(i, j) for i, (n, c) in enumerate(above) for j, (m, d) in enumerate(lower) if m <= n and (d is None or d > c)]
    return min(pairs, default=None)


def some_bounds(chance, many, never=0.1):
    above = tuple((chance.randint(1, 12), chance.randint(0, 30)) for _ in range(chance.randint(0, many)))
    lower = tuple((chance.randint(1, 12), None if chance.random() < never else chance.randint(0, 12))
                  for _ in range(chance.randint(0, many)))
    return above, lower


class Bounds(unittest.TestCase):
    def test_attributes(self):
        fits = Fits([[3, 4]], below=[[1, 2], [9, None]])
        self.assertEqual([fits.above, fits.below], [((3, 4),), ((1, 2), (9, None))])
        self.assertEqual(texts(fits), ["2 2 2 2 2 2 2 2 never", "4 4 4 never"])
        self.assertEqual(Fits(below=((1, 0),)).below, ((1, 0),))

    def test_no_bounds(self):
        fits = Fits()
        self.assertEqual([fits.above, fits.below, texts(fits)], [(), (), ["then 0 up 0", "never"]])
        self.assertEqual([fits.unsure, fits.sure(0), fits.sure(10 ** 59)], [0, (0, None), (0, None)])
        self.assertTrue(all(table in fits for table in (NEVER, NOUGHT, Table.shift(3), Table((1,)))))

    def test_by_hand(self):
        for above, lower, wanted in (
                (((2, 5),), (), ["then 0 up 0", "5 5 never"]), ((), ((3, 4),), ["0 0 then 4 up 0", "never"]),
                ((), ((1, None),), ["never", "never"]), ((), ((4, None), (2, 3)), ["0 3 3 never", "never"]),
                (((4, 9), (2, 9), (1, 0)), ((2, 3), (2, 1), (5, 0)), ["0 then 3 up 0", "0 9 9 9 never"]),
                (((3, 7), (5, 2)), (), ["then 0 up 0", "2 2 2 2 2 never"]), (((2, 4),), ((3, None), (1, 4)), ["4 4 never", "4 4 never"]),
                ((), ((2, 8), (5, 3)), ["0 then 8 up 0", "never"])):
            self.assertEqual(texts(Fits(above, lower)), wanted, (above, lower))
        far = Fits(((2000, 1),), ((2000, 1), (2000, 0)))
        self.assertEqual([far.least, far.greatest], [Table((0,) * 1999, (1,), 0), Table((1,) * 2000)])

    def test_equal(self):
        fits = Fits(((2, 5), (3, 6)), ((1, 1),))
        self.assertTrue(fits == Fits([[2, 5], [3, 6]], [[1, 1]]))
        for other in (Fits(((3, 6), (2, 5)), ((1, 1),)), Fits(((2, 5), (3, 6))), Fits(((3, 6),), ((1, 1),)), None, NEVER, fits.above):
            self.assertFalse(fits == other)
            self.assertTrue(fits != other)

    def test_any(self):
        chance = random.Random(311)
        odd = 0
        for _ in range(300):
            above, lower = some_bounds(chance, 4)
            pair = first_odds(above, lower)
            if pair is not None:
                self.assertEqual(raised(AtOdds, Fits, above, lower), {"thing": pair})
                odd += 1
                continue
            fits = Fits(above, lower)
            for n in range(1, 20):
                tops = [c for m, c in above if m >= n]
                ends = [c for m, c in lower if m <= n]
                self.assertEqual(fits.greatest(n), min(tops, default=None))
                self.assertEqual(fits.least(n), None if None in ends else max(ends, default=0))
            for table in (fits.least, fits.greatest, some_table(chance), some_table(chance, 1), NEVER, NOUGHT):
                keeps = (all(table(n) is not None and table(n) <= c for n, c in above)
                         and all(table(n) is None or c is not None and table(n) >= c for n, c in lower))
                self.assertIs(table in fits, keeps)
                self.assertIs(keeps, bool(below(fits.least, table)) and bool(below(table, fits.greatest)))
            self.assertTrue(fits.least in fits and fits.greatest in fits)
        self.assertGreater(odd, 30)

    def test_other_things_are_not_in(self):
        for thing in (None, 0, "then 1 up 1", (), ((), (1,), 1), Fits(), Maker(1, (), (("give",),))):
            self.assertIs(thing in Fits(), False)

    def test_together(self):
        one, other = Fits(((2, 5),), ((1, 1),)), Fits(((3, 4),), ((1, 2), (4, None)))
        found = one & other
        self.assertEqual([found.above, found.below], [((2, 5), (3, 4)), ((1, 1), (1, 2), (4, None))])
        self.assertEqual((other & one).above, ((3, 4), (2, 5)))
        self.assertEqual(texts(found), ["2 2 2 never", "4 4 4 never"])
        self.assertEqual([one.above, other.below], [((2, 5),), ((1, 2), (4, None))])
        self.assertEqual(raised(AtOdds, one.__and__, Fits((), ((9, 9), (2, 6)))), {"thing": (0, 2)})
        many = Fits(((1, 1),) * 40)
        self.assertEqual(raised(TooMany, many.__and__, Fits(((1, 1),) * 21)), {"word": "bound"})
        self.assertEqual(len((many & Fits(((1, 1),) * 20)).above), 60)
        many = Fits((), ((1, 1),) * 40)
        self.assertEqual(raised(TooMany, many.__and__, Fits((), ((1, 1),) * 21)), {"word": "bound"})

    def test_several_odds(self):
        above, lower = ((5, 3), (2, 1), (9, 8)), ((3, 3), (9, 9), (1, 2), (4, None))
        self.assertEqual(raised(AtOdds, Fits, above, lower), {"thing": (0, 3)})
        self.assertEqual(raised(AtOdds, Fits, above[1:], lower), {"thing": (0, 2)})
        self.assertEqual(raised(AtOdds, Fits, above[2:], lower), {"thing": (0, 1)})
        self.assertEqual(raised(AtOdds, Fits, above[::-1], lower[::-1]), {"thing": (0, 0)})
        self.assertEqual(Fits(above, lower[:1]).below, ((3, 3),))


class Pieces(unittest.TestCase):
    def test_example(self):
        fits = Fits.seen(((3, 1),))
        self.assertEqual(texts(fits) + [fits.sure(3), fits.sure(2), fits.unsure],
                         ["0 then 4 up 0", "3 never", (1, 1), (0, 1), 0])

    def test_seen(self):
        fits = Fits.seen(sights=[[5, 2], (0, 0), (7, 2), (9, 4)])
        self.assertEqual(fits.above, ((2, 5), (2, 7), (4, 9)))
        self.assertEqual(fits.below, ((3, 6), (1, 1), (3, 8), (5, 10)))
        self.assertEqual(fits, Fits(((2, 5), (2, 7), (4, 9)), ((3, 6), (1, 1), (3, 8), (5, 10))))
        self.assertEqual([Fits.seen(()), Fits.seen(((0, 0),))], [Fits(), Fits((), ((1, 1),))])
        self.assertEqual(Fits.seen(((4, 1999),)).below, ((2000, 5),))
        self.assertEqual(raised(AtOdds, Fits.seen, ((0, 0), (4, 3), (5, 2))), {"thing": (0, 2)})
        self.assertEqual(raised(AtOdds, Fits.seen, ((9, 0), (4, 1))), {"thing": (0, 0)})

    def test_sights_of_a_maker(self):
        chance = random.Random(321)
        for _ in range(100):
            table, other = some_table(chance), some_table(chance)
            sights = tuple((taken, slow_given(table, taken)) for taken in [chance.randint(0, 15) for _ in range(4)]
                           if slow_given(table, taken) is not None)
            fits = Fits.seen(sights)
            self.assertIn(table, fits)
            self.assertIs(other in fits, all(slow_given(other, taken) == come for taken, come in sights))
            for taken, come in sights:
                self.assertEqual(fits.sure(taken), (come, come))

    def test_sure(self):
        chance = random.Random(322)
        for _ in range(200):
            above, lower = some_bounds(chance, 3)
            if first_odds(above, lower) is not None:
                continue
            fits = Fits(above, lower)
            pairs = []
            for taken in range(40):
                pair = slow_given(fits.greatest, taken), slow_given(fits.least, taken)
                self.assertEqual(fits.sure(taken), pair)
                pairs.append(pair)
            unlike = [taken for taken, (few, many) in enumerate(pairs) if few != many]
            self.assertEqual(fits.unsure, min(unlike, default=None))
            self.assertEqual(fits.unsure, parting(fits.least, fits.greatest))
            self.assertIs(fits.unsure is None, fits.least == fits.greatest)
            self.assertEqual(fits.sure(taken=3), fits.sure(3))
        self.assertEqual(Fits((), ((1, 5),)).sure(10 ** 59), (0, None))
        self.assertEqual(Fits(((7, 5),), ((8, None),)).sure(10 ** 59), (7, 7))

    def test_all_is_known(self):
        fits = Fits(((1, 2), (3, 4)), ((1, 2), (2, 4), (4, None)))
        self.assertEqual([fits.unsure, texts(fits)], [None, ["2 4 4 never"] * 2])
        self.assertEqual(read_table("2 4 4 never"), fits.least)


class Wrong(unittest.TestCase):
    def test_bounds(self):
        wrong = [None, "12", (), (1,), (1, 2, 3), (0, 1), (-1, 1), (True, 1), ("1", 1), (None, 1), (1, -1), (1, True), (1, "1"), ((1,), 1)]
        for bounds in [None, "ab", 3, {1: 2}, NEVER] + [((2, 2), bound) for bound in wrong + [(1, None)]]:
            self.assertEqual(raised(BadBound, Fits, bounds, None), {"word": "above"}, bounds)
        for bounds in [None, "ab", 3, {1: 2}, NEVER] + [((2, None), bound) for bound in wrong]:
            self.assertEqual(raised(BadBound, Fits, (), bounds), {"word": "below"}, bounds)

    def test_many(self):
        self.assertEqual(raised(TooMany, Fits, ((1, 1),) * 61, None), {"word": "bound"})
        self.assertEqual(raised(BadBound, Fits, ((1, 1),) * 61 + (1,), None), {"word": "above"})
        self.assertEqual(raised(TooMany, Fits, ((1, 1),), ((1, 2),) * 61), {"word": "bound"})
        self.assertEqual(raised(BadBound, Fits, (), ((1, 2),) * 61 + (1,)), {"word": "below"})
        self.assertEqual(len(Fits(((1, 3),) * 60, ((1, 3),) * 60).below), 60)
        self.assertEqual(raised(AtOdds, Fits, ((1, 3),) * 60, ((1, 3),) * 59 + ((1, 4),)), {"thing": (0, 59)})

    def test_sights(self):
        for sights in (None, "ab", 3, {1: 2}, Fits()):
            self.assertEqual(raised(BadSight, Fits.seen, sights), {"number": -1})
        for sight in (None, "12", (), (1,), (1, 2, 3), (-1, 1), (1, -1), (True, 1), (1, False), (1, None), (None, 1), ("1", 1)):
            self.assertEqual(raised(BadSight, Fits.seen, ((5, 1), [3, 0], sight, 0)), {"number": 2}, sight)
        self.assertEqual(raised(TooMany, Fits.seen, ((1, 1),) * 61), {"word": "sight"})
        self.assertEqual(raised(BadSight, Fits.seen, ((1, 1),) * 61 + (1,)), {"number": 61})
        self.assertEqual(len(Fits.seen(((1, 1),) * 60).above), 60)

    def test_taken(self):
        for taken in (None, -1, True, "1", (1,), NEVER):
            self.assertIs(raised(BadCount, Fits().sure, taken)["thing"], taken)


if __name__ == "__main__":
    unittest.main()
