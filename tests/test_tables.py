"""[2] and [3]: tables, their plain form, values, ends, rates and shifts."""

import random
import unittest

from helpers import form_of, raised, slow_plain, slow_value, some_form, some_pairs, table_of, told
from needforth.errors import BadCount, BadTable
from needforth.tables import Table

BIG = 10 ** 60 - 1


class Making(unittest.TestCase):
    def test_example(self):
        table = Table((0, 2), (3, 3), 2)
        self.assertEqual([table(n) for n in range(1, 9)], [0, 2, 3, 3, 5, 5, 7, 7])
        self.assertEqual(form_of(Table((1, 2), (3, 4), 2)), ((), (1,), 1))

    def test_plain_form(self):
        for form, _ in some_pairs(1, 1500):
            self.assertEqual(form_of(table_of(form)), slow_plain(form), form)

    def test_told_in_several_ways(self):
        chance = random.Random(2)
        for _ in range(600):
            head, loop, rise = some_form(chance, 4, 2)
            table = Table(head, loop, rise)
            if not loop:
                continue
            laps, more = chance.randint(1, 4), chance.randint(0, 7)
            values = [slow_value((head, loop, rise), n) for n in range(1, len(head) + more + laps * len(loop) + 1)]
            left = len(head) + more
            self.assertEqual(Table(values[:left], values[left:], rise * laps), table)

    def test_head_alone(self):
        self.assertEqual(form_of(Table((1, 1))), ((1, 1), (), 0))
        self.assertEqual(form_of(Table(())), ((), (), 0))
        self.assertEqual(form_of(Table((), (), 0)), ((), (), 0))

    def test_rise_of_nought(self):
        self.assertEqual(form_of(Table((0, 4), (4, 4, 4), 0)), ((0,), (4,), 0))
        self.assertEqual(form_of(Table((0, 0), (0,), 0)), ((), (0,), 0))

    def test_place_nought_is_not_in_the_loop(self):
        self.assertEqual(form_of(Table((0,), (1,), 1)), ((), (0,), 1))
        self.assertEqual(form_of(Table((), (0, 1), 2)), ((), (0,), 1))

    def test_lists(self):
        head, loop = [0, 2], [3, 3]
        table = Table(head, loop, 2)
        self.assertEqual(table, Table((0, 2), (3, 3), 2))
        self.assertEqual((head, loop), ([0, 2], [3, 3]))
        self.assertIs(table.head.__class__, tuple)
        self.assertIs(table.loop.__class__, tuple)
        self.assertIs(Table([3]).head.__class__, tuple)

    def test_names_of_arguments(self):
        self.assertEqual(Table(rise=2, loop=(3, 3), head=(0,)), Table((0,), (3, 3), 2))
        self.assertEqual(Table(head=(1,)), Table((1,)))

    def test_big_numbers(self):
        table = Table((0, 5), (BIG - 1, BIG), BIG)
        self.assertEqual(table(4 + 2 * BIG), BIG + BIG * BIG)
        self.assertEqual(table(BIG), BIG - 1 + BIG * ((BIG - 3) // 2))
        self.assertEqual(form_of(Table((0,), (BIG, 2 * BIG, 3 * BIG), 3 * BIG)), ((), (0,), BIG))

    def test_many_entries(self):
        table = Table(tuple(range(0, 2500)), tuple(range(2500, 5000)), 2500)
        self.assertEqual(form_of(table), ((), (0,), 1))
        table = Table((0,) * 2499 + (1,), (1,) * 2499 + (2,), 1)
        self.assertTrue(form_of(table) == ((), (0,) * 2499 + (1,), 1))
        self.assertEqual(table(2500 * BIG), BIG)
        table = Table((0,) * 2400 + (1,) * 100, (1,) * 2499 + (2,), 1)
        self.assertTrue(form_of(table) == ((0,) * 2400 + (1,) * 99, (1,) * 2500, 1))
        self.assertEqual(table(2500 * BIG), BIG)

    def test_equal(self):
        self.assertEqual(Table((1,), (2,), 1), Table((), (1,), 1))
        self.assertNotEqual(Table((1,), (2,), 1), Table((1,), (2,), 2))
        self.assertNotEqual(Table((1,), (2,), 1), Table((0,), (2,), 1))
        self.assertNotEqual(Table((), (2,), 1), Table((), (3,), 1))
        for other in (((), (1,), 1), None, 1, "then 1 up 1", [(), (1,), 1]):
            self.assertFalse(Table((), (1,), 1) == other)
            self.assertTrue(Table((), (1,), 1) != other)


class Wrong(unittest.TestCase):
    def check(self, word, *parts):
        self.assertEqual(raised(BadTable, Table, *parts), {"word": word})

    def test_head(self):
        for head in ((2, 1), (-1,), (True,), (None,), ("1",), "12", "", 5, None, {}, (0, 1, 0), ((1,),), {1: 2}):
            self.check("head", head)
        self.check("head", (2, 1), (True,), -1)

    def test_loop(self):
        for loop in ((2, 1), (-1,), (False,), (None,), "12", 5, None, ((1,),), [3, 2]):
            self.check("loop", (), loop, 1)
        self.check("loop", (3,), (2,), 1)
        self.check("loop", (3,), (2, 4), -1)
        self.check("loop", (3,), None)

    def test_rise(self):
        for rise in (-1, True, False, None, "1", (1,)):
            self.check("rise", (), (2, 3), rise)
        self.check("rise", (), (2, 4), 1)
        self.check("rise", (1,), (), 1)
        self.check("rise", (1,), (), None)
        self.check("rise", (), (0, 1), 0)
        Table((), (2, 4), 2)

    def test_names(self):
        self.assertEqual(raised(BadTable, Table, head=(), loop=(1,), rise=True), {"word": "rise"})


class Values(unittest.TestCase):
    def test_values(self):
        for form, _ in some_pairs(3, 800):
            table = table_of(form)
            for n in range(40):
                self.assertEqual(table(n), told(slow_value(form, n)))

    def test_nought_and_never(self):
        for table, end in ((Table(()), None), (Table((3, 4)), None), (Table((), (3,), 0), 3), (Table((), (0,), 0), 0),
                           (Table((5,), (7, 7), 0), 7), (Table((), (1,), 1), None), (Table((9,), (9, 9), 1), None)):
            self.assertEqual(table(0), 0)
            self.assertEqual(table(None), end)
            self.assertEqual(table.end, end)

    def test_by_name(self):
        self.assertEqual(Table((), (1,), 1)(n=7), 7)

    def test_far(self):
        self.assertIsNone(Table((3, 4))(BIG))
        self.assertEqual(Table((3, 4), (5,), 0)(BIG), 5)
        self.assertEqual(Table((), (1, 1, 2), 1)(BIG), BIG // 3 + 1)

    def test_wrong(self):
        for thing in (-1, True, False, "1", (1,), [], ()):
            self.assertEqual(raised(BadCount, Table((1,)), thing), {"thing": thing})
            self.assertIs(raised(BadCount, Table((1,)), thing)["thing"], thing)

    def test_rate(self):
        self.assertEqual(Table((), (1, 1, 2, 2), 6).rate, (3, 2))
        self.assertEqual(Table((4,), (5, 5), 0).rate, (0, 1))
        self.assertEqual(Table((), (0, 0), 4).rate, (2, 1))
        self.assertIsNone(Table((1,)).rate)
        self.assertIsNone(Table(()).rate)
        self.assertEqual(Table((), (0, 1), BIG).rate, (BIG, 2))

    def test_steady(self):
        self.assertIs(Table((), (1,), 1).steady, True)
        self.assertIs(Table((0,), (1, 1), 1).steady, True)
        self.assertIs(Table((1,)).steady, False)
        self.assertIs(Table((1,), (2,), 0).steady, False)


class Shifts(unittest.TestCase):
    def test_values(self):
        for k in (0, 1, -1, 7, -7, 4999, -4999, 5000, -5000):
            shift = Table.shift(k)
            self.assertTrue(shift.steady)
            self.assertEqual(shift.rate, (1, 1))
            for n in (1, 2, 7, 8, 4999, 5000, 5001, 5002, BIG):
                self.assertEqual(shift(n), max(0, n + k))

    def test_plain(self):
        self.assertEqual(form_of(Table.shift(0)), ((), (1,), 1))
        self.assertEqual(form_of(Table.shift(-1)), ((), (0,), 1))
        self.assertEqual(form_of(Table.shift(-3)), ((0, 0), (0,), 1))
        self.assertEqual(form_of(Table.shift(5000)), ((), (5001,), 1))
        self.assertEqual(len(Table.shift(-5000).head), 4999)
        self.assertEqual(Table.shift(k=2), Table((), (3,), 1))

    def test_wrong(self):
        for thing in (5001, -5001, True, False, None, "1", (0,)):
            self.assertEqual(raised(BadCount, Table.shift, thing), {"thing": thing})


if __name__ == "__main__":
    unittest.main()
