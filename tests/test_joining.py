"""[5] and [6]: products, both, either, turns and residues."""

import unittest

from helpers import (NEVER, form_of, slow_at, slow_end, slow_last, slow_plain, slow_value, slow_values, some_pairs,
                     table_of, told)
from needforth.comparing import below
from needforth.residues import over, under
from needforth.tables import Table

BIG = 10 ** 60 - 1
MANY = 90


class Joining(unittest.TestCase):
    def check(self, table, wanted, forms):
        """The values, and that the form is plain."""
        self.assertEqual([table(n) for n in range(len(wanted))], [told(value) for value in wanted], forms)
        self.assertEqual(form_of(table), slow_plain(form_of(table)), forms)

    def test_products(self):
        for one, other in some_pairs(11, 500):
            wanted = [0] + [slow_at(one, slow_value(other, n)) for n in range(1, MANY)]
            self.check(table_of(one) * table_of(other), wanted, (one, other))

    def test_both_and_either(self):
        for one, other in some_pairs(12, 700):
            pairs = list(zip(slow_values(one, MANY), slow_values(other, MANY)))
            self.check(table_of(one) & table_of(other), [max(pair) for pair in pairs], (one, other))
            self.check(table_of(one) | table_of(other), [min(pair) for pair in pairs], (one, other))

    def test_turns(self):
        for one, _ in some_pairs(13, 500):
            wanted = [0] + [slow_last(one, n - 1) for n in range(1, MANY)]
            self.check(~table_of(one), wanted, one)
            self.assertEqual(~~table_of(one), table_of(one))

    def test_examples(self):
        turned = ~Table((), (2,), 2)
        self.assertEqual([form_of(turned), turned.rate], [((), (0, 0), 1), (1, 2)])

    def test_turned_shifts(self):
        for k in (0, 1, -1, 6, -6, 4999, -5000):
            self.assertEqual(~Table.shift(k), Table.shift(-1 - k))

    def test_edges(self):
        never, nothing, seven = Table(()), Table((), (0,), 0), Table((), (7,), 0)
        shift = Table.shift(0)
        self.assertEqual(~never, nothing)
        self.assertEqual(~nothing, never)
        self.assertEqual(~seven, Table((0,) * 7))
        self.assertEqual(seven * never, seven)
        self.assertEqual(never * seven, never)
        self.assertEqual(never * nothing, nothing)
        self.assertEqual(shift * never, never)
        self.assertEqual(nothing * never, nothing)
        self.assertEqual([never & seven, never | seven], [never, seven])
        self.assertEqual([never & never, never | never], [never, never])
        self.assertEqual(Table((1, 2)) | Table((0, 3, 4)), Table((0, 2, 4)))
        self.assertEqual(Table((1, 2)) & Table((0, 3, 4)), Table((1, 3)))
        self.assertEqual([Table((5,)) | shift, shift | Table((5,))], [shift, shift])
        self.assertEqual([Table((0, 0, 9)) | shift, shift | Table((0, 0, 9))], [Table((0, 0), (3,), 1)] * 2)

    def test_laws(self):
        for (one, other), (third, _) in zip(some_pairs(14, 200), some_pairs(15, 200)):
            f, g, h = table_of(one), table_of(other), table_of(third)
            self.assertEqual((f * g) * h, f * (g * h))
            self.assertEqual((f & g) * h, (f * h) & (g * h))
            self.assertEqual((f | g) & h, (f & h) | (g & h))
            self.assertEqual(~(f & g), ~f | ~g)

    def test_nothing_changes(self):
        f, g = Table((1, 4), (5, 7), 4), Table((0, 2), (3,), 1)
        before = [form_of(f), form_of(g)]
        results = [f * g, f & g, f | g, ~f, under(f, g), over(f, g)]
        self.assertEqual([form_of(f), form_of(g)], before)
        self.assertEqual(len(results), 6)


class Large(unittest.TestCase):
    def test_big_numbers(self):
        one, other = Table((), (BIG,), BIG), Table((3,), (BIG, BIG + 1), BIG)
        self.assertEqual((one * other)(BIG), BIG * other(BIG))
        self.assertEqual((one & other)(BIG), max(one(BIG), other(BIG)))
        self.assertEqual((other * other)(5), other(other(5)))
        self.assertEqual((one | Table.shift(0)), Table.shift(0))

    def test_long_loops_that_do_not_cross(self):
        low = Table((), tuple(range(1, 4999)) + (4998,), 4999)
        high = Table((), tuple(range(9, 5008)) + (5008,), 5000)
        self.assertEqual([low & high, low | high, high & low, high | low], [high, low, high, low])

    def test_loops_that_cross_once(self):
        fast, slow = Table((), (0,), 1), Table((), (2000,) * 3, 2)
        both, either = fast & slow, fast | slow
        self.assertEqual(both.loop, (both(len(both.head) + 1),))
        for n in range(1, 7000, 13):
            self.assertEqual([both(n), either(n)], [max(fast(n), slow(n)), min(fast(n), slow(n))])
        self.assertEqual([both.rate, either.rate], [(1, 1), (2, 3)])

    def test_loops_that_cross_for_ever(self):
        one, other = Table((), tuple(range(1, 70)) + (71,), 70), Table((), tuple(range(1, 71)) + (72,), 71)
        both, either = one & other, one | other
        self.assertEqual([len(both.loop), len(either.loop)], [70 * 71, 70 * 71])
        for n in range(1, 12000, 17):
            self.assertEqual([both(n), either(n)], [max(one(n), other(n)), min(one(n), other(n))])

    def test_many_entries(self):
        one = Table((0,) * 2500, tuple(range(1, 2501)), 2500)
        other = Table(tuple(range(2500)), (2500,) * 2500, 1)
        product = one * other
        for n in (1, 2499, 2500, 2501, 4999, 5000, 5001, 10000, BIG):
            self.assertEqual(product(n), one(other(n)))
        self.assertEqual(~~other, other)


class Residues(unittest.TestCase):
    def test_under(self):
        for one, other in some_pairs(21, 600):
            found = under(table_of(one), table_of(other))
            wanted = [0] + [slow_last(one, slow_value(other, n)) for n in range(1, MANY)]
            self.assertEqual([found(n) for n in range(MANY)], [told(value) for value in wanted], (one, other))
            self.assertEqual(found, ~(~table_of(other) * table_of(one)))

    def over_at(self, one, other, n):
        if slow_end(other) < n and slow_end(other) < NEVER:
            return NEVER
        return slow_value(one, slow_last(other, n - 1) + 1)

    def test_over(self):
        for one, other in some_pairs(22, 600):
            found = over(table_of(one), table_of(other))
            wanted = [0] + [self.over_at(one, other, n) for n in range(1, MANY)]
            self.assertEqual([found(n) for n in range(MANY)], [told(value) for value in wanted], (one, other))
            self.assertEqual(found, ~(table_of(other) * ~table_of(one)))

    def test_what_they_are_for(self):
        for (one, other), (third, _) in zip(some_pairs(23, 400), some_pairs(24, 400)):
            f, g, h = table_of(one), table_of(other), table_of(third)
            self.assertEqual(below(h, under(f, g)).holds, below(f * h, g).holds)
            self.assertEqual(below(h, over(f, g)).holds, below(h * g, f).holds)

    def test_never_on_either_side(self):
        never, nothing, shift = Table(()), Table((), (0,), 0), Table.shift(0)
        self.assertEqual([under(never, shift), under(shift, never), under(never, never)], [nothing, never, never])
        self.assertEqual([over(never, shift), over(shift, never)], [never, Table((), (1,), 0)])
        self.assertEqual([over(never, never), over(nothing, nothing)], [never, never])
        self.assertEqual([under(nothing, shift), under(shift, nothing)], [never, nothing])
        self.assertEqual([over(nothing, shift), over(shift, nothing)], [nothing, never])

    def test_big_numbers(self):
        one = Table((), (BIG,), BIG)
        self.assertEqual(under(one, Table((), (3 * BIG,), 2 * BIG)), Table((), (3,), 2))
        self.assertEqual(under(Table((BIG, BIG)), Table((), (1, BIG), BIG)), Table((0,), (2,), 0))
        self.assertEqual(under(Table((2,), (BIG,), 0), Table((), (BIG - 1,), 1)), Table((1,)))
        self.assertEqual(over(Table((), (5,), 0), one), Table((), (5,), 0))
        self.assertEqual(over(Table((5,), (BIG,), 0), Table((2,), (BIG,), BIG)), Table((5, 5), (BIG,), 0))
        self.assertEqual(over(Table.shift(-5), Table((BIG,))), Table((), (0,), 0))
        self.assertEqual(over(Table(()), one), Table(()))

    def test_by_name(self):
        twice = Table((), (2,), 2)
        self.assertEqual(form_of(under(first=twice, second=Table.shift(0))), ((), (0, 1), 1))
        self.assertEqual(form_of(over(second=twice, first=Table.shift(0))), ((), (1, 1), 1))


if __name__ == "__main__":
    unittest.main()
