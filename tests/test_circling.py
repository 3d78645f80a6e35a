"""Pieces that ask for themselves along rings of tables, also where the table of the ring would be very long."""

import random
import unittest

from helpers import some_form, table_of
from needforth import circling
from needforth.circling import first_round, product_of, rises_slowly
from needforth.tables import Table


def slow_round(tables, limit):
    """The least piece up to a limit that asks for itself, None if there is none."""
    for n in range(1, limit):
        asked = n
        for table in tables:
            asked = table(asked)
        if asked is None or asked >= n:
            return n
    return None


def some_ring(chance):
    return tuple(table_of(some_form(chance, chance.choice([2, 4, 8]), chance.choice([1, 2, 3, 8])))
                 * Table.shift(-chance.choice([0, 0, 1, 3, 8])) for _ in range(chance.randint(1, 4)))


class Rounds(unittest.TestCase):
    def test_by_hand(self):
        for tables, piece in (((Table.shift(0),), 1), ((Table.shift(-1),), None), ((Table.shift(-5), Table.shift(4)), None),
                              ((Table.shift(-5), Table.shift(5)), 6), ((Table((), (0,), 0),), None), ((Table((0, 1, 2), (4,), 1),), 4),
                              ((Table((), (0,), 1), Table((), (0, 0, 3), 3)), None)):
            self.assertEqual(first_round(tables), piece)

    def test_any(self):
        chance = random.Random(1)
        many = {True: 0, False: 0}
        for _ in range(800):
            tables = [table for table in some_ring(chance) if table.loop]
            found = first_round(tables)
            if found is None or found >= 60:
                self.assertIsNone(slow_round(tables, 60))
            else:
                self.assertEqual(found, slow_round(tables, 61))
                self.assertFalse(rises_slowly(tables))
            many[found is None] += 1
        self.assertGreater(min(many.values()), 100)

    def test_by_halves_alone(self):
        # the pieces that come round for a while only save time
        chance = random.Random(2)
        rings = [some_ring(chance) for _ in range(300)]
        rings = [ring for ring in rings if all(table.loop for table in ring)]
        found = [first_round(ring) for ring in rings]
        turns = circling.MOST_TURNS
        try:
            for circling.MOST_TURNS in (0, 1, 3):
                self.assertEqual([first_round(ring) for ring in rings], found)
        finally:
            circling.MOST_TURNS = turns

    def test_long_rings(self):
        # the table of such a ring would have some 300 ** 6 entries
        up, down = Table((0,) * 600, tuple(range(1, 302)), 302), Table((0,) * 600, tuple(range(1, 300)), 298)
        self.assertIsNone(first_round((down,) * 6))
        self.assertEqual(first_round((up,)), 600 + 600 * 301 + 1)
        piece = first_round((up,) * 6)
        for n, waits in ((piece, True), (piece - 1, False)):
            asked = n
            for _ in range(6):
                asked = up(asked)
            self.assertIs(asked >= n, waits)

    def test_product(self):
        first, second = Table((), (2,), 2), Table.shift(3)
        self.assertEqual([product_of(()), product_of((first, second))], [Table.shift(0), second * first])


if __name__ == "__main__":
    unittest.main()
