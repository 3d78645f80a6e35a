"""[16] and [17]: makers, courses, and needs on a course."""

import random
import unittest

from helpers import raised
from making import slow_need, some_maker
from needforth.errors import BadCourse, BadInlet, BadMaker, TooMany
from needforth.makers import Maker
from needforth.tables import Table
from needforth.tabletext import read_table, write_table

ONE = ((0, "give"),)


class Makers(unittest.TestCase):
    def test_attributes(self):
        maker = Maker(begin=["give", 1], ways=[[0, "give"], [1]], inlets=2)
        self.assertEqual([maker.inlets, maker.begin, maker.ways], [2, ("give", 1), ((0, "give"), (1,))])
        self.assertTrue(all(kept.__class__ is tuple for kept in (maker.begin, maker.ways) + maker.ways))

    def test_equal(self):
        maker = Maker(2, ("give", 1), ((0, "give"), (1,)))
        self.assertTrue(maker == Maker(2, ["give", 1], [[0, "give"], (1,)]))
        for other in (Maker(3, ("give", 1), ((0, "give"), (1,))), Maker(2, ("give",), ((0, "give"), (1,))),
                      Maker(2, ("give", 1), ((1,), (0, "give"))), Maker(2, ("give", 1), ((0, "give"),)), 2,
                      (2, ("give", 1), ((0, "give"), (1,))), Table(()), None):
            self.assertFalse(maker == other)
            self.assertTrue(maker != other)

    def wrong(self, word, inlets, begin, ways):
        self.assertEqual(raised(BadMaker, Maker, inlets, begin, ways), {"word": word})

    def test_inlets(self):
        for inlets in (0, 4, -1, True, None, "1", (1,), 10 ** 60):
            self.wrong("inlets", inlets, (None,), None)
        for inlets in (1, 2, 3):
            self.assertEqual(Maker(inlets, (inlets - 1,), (("give",),)).inlets, inlets)

    def test_begin(self):
        for begin in (None, "give", 0, {0: 0}, (1,), ("give", -1), ("Give",), ("",), (None,), (True,), (False,), ("0",),
                      (("give",),), [0, "take"], (0.0,), (10 ** 59,)):
            self.wrong("begin", 1, begin, None)
        self.wrong("begin", 1, (2,) * 601, None)
        self.assertEqual(Maker(1, (), ONE).begin, ())

    def test_ways(self):
        for ways in (None, "give", (), [], ("give",), (0,), ((),), (("give",), ()), ONE * 5, ((1,),), ((True,),),
                     (("give",), ("give", 3)), ({0: 0},), ((("give",),),), (None,), (("give", "Give"),), ("0",)):
            self.wrong("ways", 1, (), ways)
            self.wrong("ways", 1, ("give",) * 601, ways)
        self.assertEqual(len(Maker(1, (), ONE * 4).ways), 4)
        self.assertEqual(Maker(1, (), ((0,),)).ways, ((0,),))

    def test_too_many_deeds(self):
        for begin, ways in ((("give",) * 601, ONE), ((), ((0,) * 601,)), ((), ((0,) * 25, (0,))),
                            ((), ONE * 3 + (("give",) * 25,)), ((0,) * 601, ((0,) * 601,))):
            self.assertEqual(raised(TooMany, Maker, 1, begin, ways), {"word": "deed"})
        maker = Maker(1, ("give",) * 600, ((0, "give") * 300,))
        self.assertEqual([len(maker.begin), len(maker.ways[0])], [600, 600])
        self.assertEqual([len(way) for way in Maker(3, (2,) * 600, ((0,) * 24,) * 4).ways], [24] * 4)


class Needs(unittest.TestCase):
    def test_example(self):
        maker = Maker(1, (), ((0, "give"), (0, 0, "give")))
        self.assertEqual(write_table(maker.need(0, ((1,), (0,)))), "then 2 up 1")

    def test_by_hand(self):
        maker = Maker(3, ("give", 0, 1, 1, "give", 2), ((0, "give", "give", 1), (2, 2, 0), ("give",), (1, 1, "give", 1)))
        wanted = (
            (0, ((), (0,)), "0 1 then 2 2 up 1"), (1, ((), (0,)), "0 2 then 2 2 up 1"), (2, ((), (0,)), "0 0 then 1 up 0"),
            (0, ((1, 1), (1,)), "0 1 never"), (2, ((1,), (0, 1)), "0 0 then 3 3 up 2"), (1, ((), (2,)), "0 then 2 up 0"),
            (1, ((2, 3), (1, 3, 1, 0)), "0 2 2 4 then 7 8 8 up 4"), (0, ((1,), (2, 1)), "0 1 then 2 up 1"),
        )
        for inlet, course, text in wanted:
            self.assertEqual(maker.need(inlet, course), read_table(text), (inlet, course))
            self.assertEqual(maker.need(course=[list(course[0]), list(course[1])], inlet=inlet), read_table(text))

    def test_no_beginning_and_ways_that_do_not_give(self):
        maker = Maker(1, (), ((0,), (0, "give")))
        self.assertEqual(write_table(maker.need(0, ((), (0,)))), "never")
        self.assertEqual(write_table(maker.need(0, ((1, 0, 1), (0, 0)))), "1 3 never")
        self.assertEqual(write_table(maker.need(0, ((0,) * 200, (0,) * 39 + (1,)))), "then 240 up 40")

    def test_any(self):
        chance = random.Random(171)
        for _ in range(300):
            maker = some_maker(chance)
            many = len(maker.ways)
            course = (tuple(chance.randrange(many) for _ in range(chance.choice([0, 1, 3, 8]))),
                      tuple(chance.randrange(many) for _ in range(chance.choice([1, 1, 2, 5]))))
            for inlet in range(maker.inlets):
                table = maker.need(inlet, course)
                self.assertEqual([table(n) for n in range(1, 61)], slow_need(maker, inlet, course, 60))

    def test_long_courses(self):
        maker = Maker(3, ("give",) * 600, ((0, 1, 2, 1) * 75 + (2, "give") * 150,))
        course = ((0,) * 200, (0,) * 40)
        for inlet in range(3):
            table = maker.need(inlet, course)
            wanted = slow_need(maker, inlet, course, 800)
            self.assertEqual([table(n) for n in range(1, 801)], wanted)
            self.assertEqual(table, maker.need(inlet, ((), (0,))))
        four = Maker(2, (), ((0,) * 23 + ("give",), (1, "give") * 12, ("give",) * 24, (0, 1) * 12))
        chance = random.Random(172)
        course = (tuple(chance.randrange(4) for _ in range(200)), tuple(chance.randrange(4) for _ in range(40)))
        for inlet in range(2):
            table = four.need(inlet, course)
            self.assertEqual([table(n) for n in range(1, 5001)], slow_need(four, inlet, course, 5000))

    def test_inlets(self):
        for inlets in (1, 2, 3):
            maker = Maker(inlets, (), ONE)
            for inlet in (-1, inlets, None, True, False, "0", (0,), 10 ** 60):
                found = raised(BadInlet, maker.need, inlet, None)["thing"]
                self.assertIs(found, inlet)
            self.assertTrue(maker.need(inlets - 1, ((), (0,))).loop)

    def test_courses(self):
        maker = Maker(1, (), ONE * 2)
        for course in (None, 0, "01", (), ((), (0,), ()), ((),), ((), ()), ((0,), []), (0, (0,)), ((), 0), ((), (2,)),
                       ((-1,), (0,)), ((2,), (0,)), ((True,), (0,)), ((), (False,)), ((), (None,)), ((), ("0",)),
                       ("", (0,)), ((), "0"), ((0,) * 201, (0,)), ((), (0,) * 41), {0: 1}, ((), {0: 0}),
                       ((), (0.0,)), [[], [1, [0]]]):
            self.assertIs(raised(BadCourse, maker.need, 0, course)["thing"], course)


if __name__ == "__main__":
    unittest.main()
