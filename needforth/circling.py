"""Rings of tables: which piece is the first one that asks for itself.

Such a piece need not come soon, and the table of a whole ring may have far too many entries to be written out.
So the rates and the offsets of the tables are asked first: most rings on which no piece asks for itself show it
there. Then pieces are let come round for a while, which finds most pieces that come soon. What is left is told
by the tables of the two halves of the ring.
"""

from needforth.chasing import first_excess
from needforth.forms import last_at_most
from needforth.tables import Table

MOST_TURNS = 1000


def slope_of(table):
    """Integers p, q, c with which p times each value is at most q times its place plus c; the table has a loop."""
    many = len(table.loop)
    offsets = [many * value - table.rise * n for n, value in enumerate(table.head + table.loop, start=1)]
    return many, table.rise, max(offsets)


def rises_slowly(tables):
    """Whether the slopes of tables along a ring show that no piece asks for itself.

    Either a piece asks for none of itself, or the slopes put together hold for what it asks.
    """
    if not all([table.loop for table in tables]):
        return False
    among, rise, offset = 1, 1, 0
    for table in tables:
        p, q, c = slope_of(table)
        among, rise, offset = among * p, rise * q, q * offset + among * c
    return rise <= among and rise + offset < among


def come_round(tables, many):
    """How many pieces come if so many are there to go round, None for never."""
    for table in tables[::-1]:
        many = last_at_most(table, many)
        if many is None:
            return None
    return many


def product_of(tables):
    """What is asked along several tables, the first of them first."""
    found = Table.shift(0)
    for table in tables:
        found = table * found
    return found


def first_round(tables):
    """The least piece that asks for itself along a ring of tables, None if none does.

    By the halves of the ring, it asks for more along the first one than the pieces for which
    the second one asks for less than it.
    """
    if rises_slowly(tables):
        return None
    many = 0
    for _ in range(MOST_TURNS):
        later = come_round(tables, many)
        if later is None:
            return None
        if later == many:
            return many + 1
        many = later
    half = (len(tables) + 1) // 2
    return first_excess(product_of(tables[:half]), ~product_of(tables[half:]), 0)
