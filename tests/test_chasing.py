"""The leads of one loop over another one, which [4] and [5] rest on."""

import random
import unittest

from needforth.chasing import Chase, drift_of
from needforth.tables import Table

FAR = 4000


def some_loop(chance, many, climb):
    entries = sorted(chance.randint(0, climb) + 2 for _ in range(many))
    return Table((), entries, climb)


class Leads(unittest.TestCase):
    def pairs(self):
        chance = random.Random(71)
        for one, other in ((4, 6), (6, 4), (5, 3), (3, 5), (7, 7), (1, 8), (8, 1), (12, 18), (9, 12), (16, 6)) * 40:
            slope = chance.randint(1, 3)
            first = some_loop(chance, one, slope * one + chance.choice([0, 0, 1]))
            second = some_loop(chance, other, slope * other + chance.choice([0, 0, 1]))
            yield first, second, max(len(first.head), len(second.head)) + chance.randint(0, 5)

    def test_leads(self):
        for first, second, start in self.pairs():
            chase = Chase(first, second, start)
            leads = {n: first(n) - second(n) for n in range(start + 1, FAR)}
            if drift_of(first, second) <= 0:
                self.assertEqual(chase.greatest_lead(), max(leads.values()))
            for k in (-2, 0, 1, 4):
                places = [n for n in leads if leads[n] > k]
                self.assertEqual(chase.first_lead(k), places[0] if places else None)
            if drift_of(first, second) < 0:
                places = [n for n in leads if leads[n] > 0]
                self.assertEqual(chase.last_lead(), places[-1] if places else None)


if __name__ == "__main__":
    unittest.main()
