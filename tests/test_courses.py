"""[18] and [19]: needs on all courses, courses with the most and the least need, and makers of told needs."""

import itertools
import random
import unittest

from helpers import raised, slow_value, some_form, table_of
from making import slow_need, some_maker
from needforth.courses import course_of, greatest, least, maker_of
from needforth.errors import BadCount, BadInlet, BadTables, TooMany
from needforth.makers import Maker
from needforth.tables import Table
from needforth.tabletext import read_table, write_table

MOST = 60


def slow_needs(maker, inlet, many):
    """The least and the greatest values for the pieces up to so many, from all that rounds can come to."""
    begin = [deed for deed in maker.begin if deed in ("give", inlet)]
    head = [begin[:at].count(inlet) for at, deed in enumerate(begin) if deed == "give"]
    reached = {len(head): {begin.count(inlet)}}
    values = {n: {value} for n, value in enumerate(head, start=1)}
    stops = [way for way in maker.ways if "give" not in way]
    for given in range(many):
        found = sorted(reached.get(given, ()))
        for taken, way in itertools.product(found[:1] + found[-1:], maker.ways):
            if "give" in way:
                n, total = given, taken
                for deed in way:
                    if deed == "give":
                        n += 1
                        values.setdefault(n, set()).add(total)
                    total += deed == inlet
                reached.setdefault(n, set()).add(total)
    low = [min(values[n]) if n in values else None for n in range(1, many + 1)]
    high = [max(values[n]) if n in values and (not stops or n <= len(head)) else None for n in range(1, many + 1)]
    return low, high


def first_values(table, many):
    return [table(n) for n in range(1, many + 1)]


class Extremes(unittest.TestCase):
    def test_example(self):
        maker = Maker(1, (), ((0, "give"), (0, 0, 0, "give", "give")))
        self.assertEqual([write_table(least(maker, 0)), write_table(greatest(maker, 0))],
                         ["then 1 up 1", "then 3 4 up 3"])

    def test_by_hand(self):
        wanted = (
            (Maker(1, (), (("give",),)), "then 0 up 0", "then 0 up 0"),
            (Maker(1, (), ((0,),)), "never", "never"),
            (Maker(1, ("give", 0, "give"), ((0,), (0, 0))), "0 1 never", "0 1 never"),
            (Maker(1, ("give", 0, "give"), ((0,), (0, "give"))), "0 1 then 2 up 1", "0 1 never"),
            (Maker(1, (), ((0,), ("give",))), "then 0 up 0", "never"),
            (Maker(1, (), (("give",), (0, "give"))), "then 0 up 0", "then 1 up 1"),
            (Maker(1, (0,), (("give", "give", 0), (0, 0, "give"))), "then 1 1 up 1", "then 3 up 2"),
            # the piece that comes last may come from a round that is not the best one for long
            (Maker(1, (), ((0, "give"), (0, 0, 0, 0, 0, "give", "give", "give", "give"))),
             "then 1 up 1", "5 6 7 8 then 10 11 12 13 up 5"),
            (Maker(1, (), (("give", "give", 0, 0, 0), (0, "give"))), "0 0 then 1 up 1", "then 1 2 up 3"),
        )
        for maker, low, high in wanted:
            self.assertEqual(least(maker, 0), read_table(low), maker.ways)
            self.assertEqual(greatest(maker, 0), read_table(high), maker.ways)

    def test_any(self):
        chance = random.Random(181)
        never = 0
        for _ in range(300):
            maker = some_maker(chance, chance.choice([2, 5, 12]))
            for inlet in range(maker.inlets):
                low, high = slow_needs(maker, inlet, MOST)
                self.assertEqual(first_values(least(maker, inlet), MOST), low)
                self.assertEqual(first_values(greatest(inlet=inlet, maker=maker), MOST), high)
                never += high[-1] is None
        self.assertGreater(never, 20)

    def test_late_rounds(self):
        # far behind the place from where on the values come round, with ways of many pieces
        chance = random.Random(182)
        for _ in range(12):
            lengths = chance.sample(range(8, 13), 3)
            ways = tuple(("give",) * many + (0,) * chance.randint(1, 12) for many in lengths)
            maker = Maker(1, (), ways)
            low, high = slow_needs(maker, 0, 700)
            self.assertEqual(first_values(least(maker, 0), 700), low, ways)
            self.assertEqual(first_values(greatest(maker, 0), 700), high, ways)

    def test_all_courses_keep_within(self):
        chance = random.Random(183)
        for _ in range(100):
            maker = some_maker(chance, 4)
            course = (tuple(chance.randrange(len(maker.ways)) for _ in range(6)), (chance.randrange(len(maker.ways)),))
            for inlet in range(maker.inlets):
                low, high = least(maker, inlet), greatest(maker, inlet)
                for n, value in enumerate(slow_need(maker, inlet, course, 30), start=1):
                    value = 10 ** 9 if value is None else value
                    self.assertTrue(low(n) is None and value == 10 ** 9 or low(n) is not None and low(n) <= value)
                    self.assertTrue(high(n) is None or value <= high(n))

    def test_one_way_is_its_need(self):
        maker = Maker(2, (0, "give") * 300, ((0, "give", 1, 1) * 150,))
        for inlet in (0, 1):
            table = maker.need(inlet, ((), (0,)))
            self.assertEqual([least(maker, inlet), greatest(maker, inlet)], [table, table])


class Courses(unittest.TestCase):
    def check(self, maker, inlet, piece):
        for most, table in ((True, greatest(maker, inlet)), (False, least(maker, inlet))):
            first, then = course_of(maker, inlet, piece, most=most)
            self.assertTrue(first.__class__ is tuple and then.__class__ is tuple)
            self.assertLessEqual(len(then), 4)
            if piece <= 60:
                self.assertLessEqual(len(first), 200)
                self.assertEqual(maker.need(inlet, (first, then))(piece), table(piece), (maker.ways, inlet, piece, most))
            self.assertEqual(slow_need(maker, inlet, (first, then), piece)[-1], table(piece))

    def test_all_pieces(self):
        chance = random.Random(184)
        for _ in range(12):
            maker = some_maker(chance, chance.choice([2, 5, 12]))
            for piece in list(range(1, 61)) + [61, 200, 777, 2000]:
                self.check(maker, chance.randrange(maker.inlets), piece)

    def test_edges(self):
        long = Maker(1, ("give",) * 600, ((0,), (0, "give")))
        for maker in (long, Maker(1, ("give", 0) * 300, ((0, "give"),)), Maker(1, (), ((0,),)),
                      Maker(3, (), (("give",) * 24, (0, 1, 2) * 8, (2, "give"), (1, "give", "give"))),
                      Maker(1, (), (("give", 0), (0, "give"))), Maker(2, (), ((0,) * 300 + ("give",) * 300,))):
            for piece in (1, 2, 23, 24, 25, 59, 60, 61, 600, 601, 1999, 2000):
                for inlet in range(maker.inlets):
                    self.check(maker, inlet, piece)

    def test_few_rounds_told(self):
        # the way that gives the piece is to be gone as often as it may, so that a course is not long without need
        for ways, piece, most in (((("give",), ("give", "give", "give", 0), ("give",)), 814, True), (((0, "give"), (0, 0, "give", "give")), 2000, True),
                                  (((0, 0, "give", "give"), (0, "give")), 1999, True), (((0, "give"), ("give", "give", 0, 0)), 1999, False)):
            maker = Maker(1, (), ways)
            course = course_of(maker, 0, piece, most=most)
            self.assertLessEqual(len(course[0]), 1, course)
            table = greatest(maker, 0) if most else least(maker, 0)
            self.assertEqual(maker.need(0, course)(piece), table(piece))

    def test_most(self):
        maker = Maker(1, (), (("give",), (0, "give")))
        self.assertEqual(maker.need(0, course_of(maker, 0, 9))(9), 9)
        self.assertEqual(maker.need(0, course_of(piece=9, inlet=0, maker=maker, most=False))(9), 0)
        self.assertRaises(TypeError, course_of, maker, 0, 9, True)

    def test_errors(self):
        maker = Maker(2, (), ((0, "give"),))
        for inlet in (-1, 2, None, True, "0"):
            self.assertIs(raised(BadInlet, least, maker, inlet)["thing"], inlet)
            self.assertIs(raised(BadInlet, greatest, maker, inlet)["thing"], inlet)
            self.assertIs(raised(BadInlet, course_of, maker, inlet, 0)["thing"], inlet)
        for piece in (0, -1, 2001, None, True, "1", (1,), 10 ** 60):
            self.assertIs(raised(BadCount, course_of, maker, 1, piece, most=False)["thing"], piece)


class MakersOf(unittest.TestCase):
    def check(self, tables):
        maker = maker_of(tables)
        self.assertEqual([maker.inlets, len(maker.ways)], [len(tables), 1])
        for inlet, table in enumerate(tables):
            self.assertEqual(maker.need(inlet, ((), (0,))), table)
            self.assertEqual([least(maker, inlet), greatest(maker, inlet)], [table, table])

    def test_by_hand(self):
        texts = (("then 1 up 1",), ("never",), ("0 0 3 never",), ("then 0 up 0",), ("then 5 up 0", "then 0 up 1"),
                 ("0 5 then 6 9 up 4", "then 1 2 4 up 3", "1 2 3 then 4 up 0"), ("0 1 never", "2 2 never", "0 0 never"),
                 ("never", "never"), ("0 then 9 up 1",), ("then 0 up 5",), ("then 0 0 0 7 up 7", "then 3 up 0"))
        for row in texts:
            self.check(tuple(read_table(text) for text in row))
        self.check([read_table("then 2 up 1")])
        self.assertEqual(maker_of(tables=(Table.shift(0),)).inlets, 1)

    def size(self, tables):
        """What [19] counts: H, twice L, and the values that are counts there."""
        lead = max(len(table.head) for table in tables)
        lap = 0
        if tables[0].loop:
            lap = next(n for n in range(1, 10 ** 6) if all(n % len(table.loop) == 0 for table in tables))
        values = [slow_value((table.head, table.loop, table.rise), lead + 2 * lap) for table in tables]
        return lead + 2 * lap + sum(values)

    def test_any(self):
        chance = random.Random(191)
        made = 0
        for _ in range(600):
            tables = tuple(table_of(some_form(chance, 5, 4)) for _ in range(chance.randint(1, 3)))
            shapes = {(bool(table.loop), 0 if table.loop else len(table.head)) for table in tables}
            if len(shapes) > 1:
                self.assertEqual(raised(BadTables, maker_of, tables), {"number": -1})
            elif self.size(tables) <= 600:
                self.check(tables)
                made += 1
            else:
                self.assertEqual(raised(TooMany, maker_of, tables), {"word": "deed"})
        self.assertGreater(made, 100)

    def test_limits(self):
        # lead + values for tables that are never, lead + 2 laps + values for the others
        self.check((Table((0,) * 598 + (1,)),))
        self.check((Table((599,)),))
        self.check((Table((), (598,), 0),))
        self.check((Table((), (299,), 299),))
        self.check((Table((), (199,), 0), Table((), (399,), 0)))
        self.check((Table((0,) * 200, (398,), 0),))
        for tables in ((Table((0,) * 600 + (1,)),), (Table((10 ** 59,)),), (Table((), (1,), 10 ** 59),),
                       (Table((0,) * 2000, (700,), 1),), (Table((), tuple(range(601)), 602),),
                       (Table((), tuple(range(0, 4999, 2)), 4998), Table((), tuple(range(0, 4997, 2)), 4996))):
            self.assertEqual(raised(TooMany, maker_of, tables), {"word": "deed"})

    def test_errors(self):
        good, ending = Table.shift(0), Table((1,))
        for tables in (None, (), [], good, "abc", 3, (good,) * 4, (1,) * 4, {0: good}):
            self.assertEqual(raised(BadTables, maker_of, tables), {"number": -1})
        self.assertEqual(raised(BadTables, maker_of, (good, 1, None)), {"number": 1})
        self.assertEqual(raised(BadTables, maker_of, ("then 1 up 1",)), {"number": 0})
        self.assertEqual(raised(BadTables, maker_of, (good, ending, None)), {"number": 2})
        for tables in ((good, ending), [ending, good], (ending, Table((1, 1))), (ending, ending, Table(())),
                       (good, good, ending), (Table((10 ** 59,)), good)):
            self.assertEqual(raised(BadTables, maker_of, tables), {"number": -1})


if __name__ == "__main__":
    unittest.main()
