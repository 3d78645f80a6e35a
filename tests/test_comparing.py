"""[1], [4] and [32]: verdicts, below, gap and parting."""

import unittest

from helpers import NEVER, raised, slow_last, slow_values, some_pairs, table_of, told
from needforth.comparing import Below, Gap, below, gap, parting
from needforth.errors import BadCount
from needforth.tables import Table
from needforth.verdicts import Verdict

BIG = 10 ** 60 - 1
FAR = 260


class Verdicts(unittest.TestCase):
    def test_truth(self):
        self.assertTrue(issubclass(Below, Verdict))
        yes, no = below(Table.shift(0), Table.shift(1)), below(Table.shift(1), Table.shift(0))
        self.assertEqual([yes.holds, bool(yes), no.holds, bool(no)], [True, True, False, False])
        self.assertEqual([yes.place, yes.sides], [None, None])
        self.assertEqual([no.place, no.sides], [1, (2, 1)])
        self.assertEqual([no.first, no.second], [Table.shift(1), Table.shift(0)])
        self.assertEqual(below(second=Table.shift(1), first=Table.shift(0)).holds, True)


class Comparing(unittest.TestCase):
    def test_below(self):
        for one, other in some_pairs(31, 1500):
            pairs = list(zip(slow_values(one, FAR), slow_values(other, FAR)))
            place = next((n for n in range(FAR) if pairs[n][0] > pairs[n][1]), None)
            found = below(table_of(one), table_of(other))
            self.assertIs(found.holds, place is None, (one, other))
            self.assertEqual(found.place, place, (one, other))
            sides = None if place is None else (told(pairs[place][0]), told(pairs[place][1]))
            self.assertEqual(found.sides, sides, (one, other))

    def leads(self, one, other):
        pairs = list(zip(slow_values(one, FAR), slow_values(other, FAR)))
        return [(NEVER if a >= NEVER else a - b, n) for n, (a, b) in enumerate(pairs) if b < NEVER]

    def test_gap(self):
        for one, other in some_pairs(32, 1500):
            leads = self.leads(one, other)
            most = max(lead for lead, n in leads)
            found = gap(table_of(one), table_of(other))
            if most >= NEVER or most > max(lead for lead, n in leads if n < FAR // 2):
                self.assertEqual([found.most, found.place], [None, None], (one, other))
            else:
                place = min(n for lead, n in leads if lead == most)
                self.assertEqual([found.most, found.place], [most, place], (one, other))
            for k in (0, 1, 2, 5):
                place = min((n for lead, n in leads if lead > k), default=None)
                self.assertEqual(found.beyond(k), place, (one, other, k))

    def test_parting(self):
        for one, other in some_pairs(33, 1500):
            unlike = (c for c in range(200) if slow_last(one, c) != slow_last(other, c))
            wanted = None if table_of(one) == table_of(other) else next(unlike)
            self.assertEqual(parting(table_of(one), table_of(other)), wanted, (one, other))

    def test_example(self):
        first, second = Table((), (3,), 1), Table.shift(0)
        found = gap(first, second)
        self.assertEqual([found.most, found.place, found.beyond(1), found.beyond(2)], [2, 1, 1, None])
        self.assertEqual([below(first, second).sides, parting(first, second)], [(3, 1), 1])

    def test_never(self):
        never, seven, shift = Table(()), Table((), (7,), 0), Table.shift(0)
        self.assertEqual([below(never, shift).place, below(never, shift).sides], [1, (None, 1)])
        self.assertTrue(below(never, never))
        self.assertTrue(below(shift, never))
        self.assertEqual([gap(never, shift).most, gap(never, shift).place, gap(never, shift).beyond(BIG)],
                         [None, None, 1])
        self.assertEqual([gap(never, never).most, gap(never, never).place], [0, 0])
        self.assertEqual([gap(shift, never).most, gap(shift, never).beyond(0)], [0, None])
        self.assertEqual([gap(Table((1, 2)), Table((0, 0, 0))).most, gap(Table((1, 2)), Table((0, 0, 0))).beyond(2)],
                         [None, 3])
        self.assertEqual([gap(Table((5, 9, 9)), Table((5, 5))).most, gap(Table((5, 9, 9)), Table((5, 5))).place], [4, 2])
        self.assertEqual(parting(never, seven), 7)
        self.assertIsNone(parting(never, Table(())))
        self.assertEqual(parting(Table((2,)), Table((2, 9))), 9)
        self.assertEqual(below(Table((2,)), Table((2, 9))).sides, (None, 9))

    def test_no_lead_is_a_lead_of_nought(self):
        found = gap(Table.shift(-4), Table.shift(3))
        self.assertEqual([found.most, found.place, found.beyond(0)], [0, 0, None])

    def test_without_bound(self):
        found = gap(Table((), (1,), 2), Table.shift(0))
        self.assertEqual([found.most, found.place, found.beyond(0), found.beyond(BIG)], [None, None, 2, BIG + 2])
        self.assertEqual(gap(first=Table.shift(0), second=Table((), (7,), 0)).beyond(k=3), 11)

    def test_wrong_count(self):
        for thing in (-1, True, None, "0", (1,)):
            self.assertEqual(raised(BadCount, gap(Table(()), Table(())).beyond, thing), {"thing": thing})

    def test_kinds(self):
        self.assertIsInstance(gap(Table(()), Table(())), Gap)
        self.assertIsInstance(below(Table(()), Table(())), Below)


class Far(unittest.TestCase):
    def check(self, one, other, place):
        found = below(one, other)
        self.assertEqual(found.place, place)
        self.assertEqual(found.sides, (one(place), other(place)))
        self.assertGreater(one(place), other(place))
        self.assertEqual(gap(one, other).beyond(0), place)
        if below(other, one):
            self.assertEqual(parting(one, other), other(place))
            self.assertEqual(parting(other, one), other(place))

    def test_far_by_an_offset(self):
        self.check(Table((), (1,), 2), Table((), (BIG,), 1), BIG + 1)
        self.check(Table.shift(0), Table((), (BIG,), 0), BIG + 1)
        self.check(Table((), (0,) * 3, 2), Table((), (BIG,) * 5, 3), 15 * (BIG - 2) + 10)

    def test_far_by_two_loops(self):
        # the first one is ahead at the multiples of 4999, the second one not ahead at those of 5000 alone
        one = Table((), tuple(range(1, 4999)) + (5000,), 4999)
        other = Table((), tuple(range(2, 5001)) + (5000,), 5000)
        self.check(one, other, 4999 * 5000)
        self.assertEqual([gap(one, other).most, gap(one, other).place], [1, 4999 * 5000])

    def test_far_by_a_little_more(self):
        one = Table((), tuple(range(4998)) + (4999,), 5001)
        other = Table((), (BIG,) * 4997, 4998)
        place = below(one, other).place
        self.assertGreater(one(place), other(place))
        self.assertLessEqual(one(place - 1), other(place - 1))
        self.assertGreater(place, BIG)

    def test_long_loops(self):
        chance = [(37 * n * n + 11 * n) % 97 for n in range(5000)]
        one = Table((), tuple(sorted(n + chance[n] for n in range(4999))), 4999 + 200)
        other = Table((), tuple(sorted(n + 90 + chance[n] for n in range(5000))), 5000 + 200)
        for k in (0, 3, 40):
            place = gap(one, other).beyond(k)
            self.assertGreater(one(place) - other(place), k)
            for n in range(1, min(place, 60000)):
                self.assertLessEqual(one(n) - other(n), k)

    def test_pairs_of_loops(self):
        forms = [((), tuple(range(a, a + p)), p + b) for p in (4, 6, 9, 10) for a in (1, 3, 12) for b in (0, 1)]
        tables = [(table_of(form), slow_values(form, 3000)) for form in forms]
        for first, ones in tables:
            for second, others in tables:
                leads = [a - b for a, b in zip(ones, others)]
                found = gap(first, second)
                if first.rise * second.rate[1] > first.rate[1] * second.rise:
                    self.assertIsNone(found.most)
                if found.most is not None:
                    self.assertEqual([found.most, found.place], [max(leads), leads.index(max(leads))])
                self.assertEqual(found.beyond(4), next((n for n, lead in enumerate(leads) if lead > 4), None))

    def test_an_end_that_is_a_count(self):
        low, high = Table((0, 3), (5,), 0), Table((1,), (2, 3, 4), 3)
        self.assertEqual(below(low, high).place, 2)
        self.assertEqual([gap(low, high).most, gap(low, high).place], [2, 3])
        self.assertEqual(below(high, low).place, 1)
        self.assertIsNone(gap(high, low).most)
        self.assertEqual([gap(low, Table((), (4,), 0)).most, gap(low, Table((), (4,), 0)).place], [1, 3])


if __name__ == "__main__":
    unittest.main()
