"""[27]: which makers in a hole let a row keep up a pace."""

import random
import unittest

from helpers import raised, table_of
from making import some_maker, some_web
from needforth.comparing import below
from needforth.courses import greatest, maker_of
from needforth.errors import BadPace, BadPaces, Lacking, NoHole, TooMany
from needforth.holes import Widest, widest
from needforth.makers import Maker
from needforth.paces import kept
from needforth.tables import Table
from needforth.tabletext import read_table, write_table
from needforth.verdicts import Verdict
from needforth.webs import Web
from needforth.webtext import read_web
from rowing import some_paces, some_table

NEVER = Table(())
NOUGHT = Table((), (0,), 0)


def easy(inlets):
    return Maker(inlets, (), (("give",),))


def with_hole(chance, web):
    """The web with an unknown maker at one of its rows, and the name of this row."""
    hole = chance.choice(list(web))
    return Web(web.givens, [(name, "f" if name == hole else maker, sources) for name, maker, sources in web.rows]), hole


def may_stand(told, maker):
    """Whether the verdict says that the pace is kept up with this maker."""
    needs = [greatest(maker, inlet) for inlet in range(maker.inlets)]
    if not all(below(need, table).holds for need, table in zip(needs, told.tables)):
        return False
    if told.wanted is None:
        return all(need.loop for need in needs)
    return all(need(told.wanted) is not None for need in needs)


def counted(table, stop):
    """The table up to a place, with counts in the place of never, and never behind it."""
    head = []
    for n in range(1, stop + 1):
        head.append(max(head + [3]) + 2 if table(n) is None else table(n))
    return Table(head)


class Told(unittest.TestCase):
    def test_example(self):
        web = read_web(("given g", "row x of h: begin; way 0 give", "row h of g by f"))
        told = widest(web, "x", Table.shift(0), (("g", Table((), (2,), 2)),))
        self.assertEqual([told.holds, write_table(told.tables[0]), told.wanted], [True, "then 2 up 2", None])

    def test_attributes(self):
        web = read_web(("given g", "row x of h g: begin; way 0 1 give", "row h of g by f"))
        told = widest(paces=[["g", Table.shift(1)]], pace=Table.shift(0), row="x", web=web)
        self.assertTrue(told and told.holds is True and isinstance(told, Widest) and isinstance(told, Verdict))
        self.assertEqual([told.tables, told.wanted, told.stage], [(Table.shift(1),), None, None])
        told = widest(web, "x", Table.shift(0), (("g", Table((1, 1, 2), (5,), 0)),))
        self.assertTrue(not told and told.holds is False)
        self.assertEqual([told.tables, told.wanted, told.stage], [None, None, 2])

    def told(self, lines, row, pace, *paces):
        told = widest(read_web(lines), row, read_table(pace), [(name, read_table(text)) for name, text in paces])
        return [write_table(table) for table in told.tables] + [told.wanted] if told.holds else told.stage

    def test_by_hand(self):
        ring = ("given g", "row x of h: begin give; way 0 give", "row h of x g by f")
        own = ("given g", "row h of h g by f", "row x of h: begin; way 0 0 give")
        apart = ("given g", "row h of g by f", "row x of x: begin give; way 0 0 give")
        bounded = ("given g", "given k", "row x of h g: begin 0 0 give; way 1 give", "row h of g k by f")
        for lines, row, pace, paces, wanted in (
                (ring, "x", "never", [], ["then 1 up 1", "never", None]),
                (ring, "x", "then 1 up 1", [("g", "then 3 up 2")], ["then 1 up 1", "then 5 up 2", None]),
                (ring, "h", "3 never", [("g", "2 never")], ["then 1 up 1", "2 2 2 never", None]),
                (ring, "h", "2 then 3 up 0", [("g", "then 2 up 0")], ["1 2 3 never", "2 2 2 never", 3]),
                (own, "h", "then 1 up 1", [], ["then 0 up 1", "never", None]),
                (own, "x", "then 2 up 0", [("g", "0 then 1 up 1")], ["0 1 2 3 never", "0 0 0 0 never", 4]),
                (apart, "x", "then 1 up 0", [("g", "then 0 up 0")], ["never", 0]),
                (apart, "x", "0 0 then 2 up 0", [], 3), (apart, "h", "never", [("g", "1 never")], ["then 1 up 0", None]),
                (apart, "h", "then 0 up 0", [("g", "then 0 up 0")], ["never", 0]),
                (bounded, "x", "never", [], ["never", "never", 2]), (bounded, "x", "1 2 never", [("g", "0 1 2 never")], 3),
                (bounded, "x", "0 3 then 4 up 0", [("g", "1 4 5 5 never")], ["4 4 never", "never", 2]),
                (bounded, "x", "0 3 then 4 up 0", [("k", "1 4 5 5 never")], ["never", "4 4 never", 2])):
            self.assertEqual(self.told(lines, row, pace, *paces), wanted, (lines, row, pace, paces))

    def test_any(self):
        chance = random.Random(271)
        seen = {True: 0, False: 0, "tight": 0, "lost": 0}
        for _ in range(150):
            web, hole = with_hole(chance, some_web(chance, False))
            row = hole if chance.random() < 0.2 else chance.choice(list(web))
            paces = some_paces(chance, web.givens, 0.8)
            pace = some_table(chance, 1) * Table.shift(-chance.randint(0, 4))
            told = widest(web, row, pace, paces)
            inlets = len(web[hole][1])
            best = kept(web.filled((("f", easy(inlets)),)), row, pace, paces)
            self.assertEqual([told.holds, told.stage], [best.holds, best.stage])
            if not told.holds:
                seen["lost"] += 1
                continue
            self.assertEqual([len(told.tables), told.tables.__class__], [inlets, tuple])
            for maker in self.makers(chance, told, inlets):
                wanted = may_stand(told, maker)
                self.assertIs(kept(web.filled((("f", maker),)), row, pace, paces).holds, wanted,
                              (web.rows, row, pace, maker.begin, maker.ways))
                seen[wanted] += 1
        self.assertGreater(min(seen[True], seen[False]), 200)
        self.assertGreater(seen["lost"], 20)

    def makers(self, chance, told, inlets):
        """Makers with just the told tables, with one piece more at an inlet, and any others."""
        found = [easy(inlets), some_maker(chance, 3, inlets, 0.1), some_maker(chance, 2, inlets, 0)]
        for stop in (told.wanted, 0, 1, 3, 7):
            if stop is not None and stop < 60:
                found.extend(self.makers_up_to(chance, told, stop))
        if told.wanted is None and all(table.loop for table in told.tables):
            found.append(self.maker(told.tables))
        if told.wanted is None:
            # never is more than any count
            tables = [table | Table((), (9,), 2) for table in told.tables]
            found.append(self.maker(tables))
            at = chance.randrange(inlets)
            tables[at] = tables[at] & Table((0,) * chance.randint(0, 6), (tables[at](5) + 1,), 0)
            found.append(self.maker(tables))
        return [maker for maker in found if maker is not None]

    def makers_up_to(self, chance, told, stop):
        tables = [counted(table, stop) for table in told.tables]
        found = [self.maker(tables)]
        if stop > 0:
            at, place = chance.randrange(len(tables)), chance.randint(1, stop)
            value = tables[at](place) + 1
            head = tables[at].head
            tables[at] = Table(head[:place - 1] + tuple(max(value, more) for more in head[place - 1:]))
            found.append(self.maker(tables))
        return found

    def maker(self, tables):
        try:
            return maker_of(tables)
        except TooMany:
            return None

    def test_just_the_told_tables(self):
        web = read_web(("given g", "row x of h: begin give; way 0 0 give", "row h of x g by f"))
        paces = (("g", Table((4,), (6, 6), 5)),)
        told = widest(web, "x", Table((1,), (1,), 0), paces)
        self.assertEqual([told.holds, told.wanted, told.tables], [True, 0, (NEVER, NEVER)])
        told = widest(web, "x", Table((1, 3, 3, 3, 4)), paces)
        self.assertEqual([told.holds, told.wanted], [True, None])
        pace = Table((1, 3, 3, 3, 4), (5,), 0)
        told = widest(web, "x", pace, paces)
        self.assertEqual([told.wanted, [write_table(table) for table in told.tables]],
                         [8, ["1 1 2 2 3 3 4 4 never", "6 6 6 6 11 11 16 16 never"]])
        tables = [Table(table.head, (20,), 1) for table in told.tables]
        self.assertTrue(kept(web.filled((("f", maker_of(tables)),)), "x", pace, paces).holds)
        for at in (0, 1):
            for place in range(8):
                more = list(tables)
                head = list(tables[at].head)
                head[place:] = [max(head[place] + 1, value) for value in head[place:]]
                more[at] = Table(head, (20,), 1)
                self.assertFalse(kept(web.filled((("f", maker_of(more)),)), "x", pace, paces).holds)


class Wrong(unittest.TestCase):
    def setUp(self):
        self.web = read_web(("given g", "given k", "row x of h: begin; way 0 give", "row h of g by f"))

    def test_no_hole(self):
        one = easy(1)
        for rows in ((("x", one, ("x",)),), (("x", "f", ("x",)), ("y", "f", ("x",))), (("x", "f", ("x",)), ("y", "e", ("x",)))):
            self.assertEqual(raised(NoHole, widest, Web((), rows), None, None, None), {})
            self.assertEqual(raised(NoHole, widest, Web((), rows), "x", NEVER), {})

    def test_rows(self):
        for thing in ("g", "q", None, 0, True, ["x"], ("x",), "", "f", NEVER):
            self.assertIs(raised(Lacking, widest, self.web, thing, None, None)["thing"], thing)

    def test_pace(self):
        for pace in (None, "then 1 up 1", 3, (1, 2), self.web):
            self.assertEqual(raised(BadPace, widest, self.web, "h", pace, None), {})

    def test_paces(self):
        for paces, number in ((None, -1), ("g", -1), ({"g": NEVER}, -1), ((None,), 0), ((("x", NEVER),), 0),
                              ([["g", NEVER], ["g", NEVER]], 1), ((("g", NEVER), ("k", None)), 1), ((("h", NEVER),), 0)):
            self.assertEqual(raised(BadPaces, widest, self.web, "x", NEVER, paces), {"number": number})


if __name__ == "__main__":
    unittest.main()
