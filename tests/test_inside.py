"""[33]: what sights of a whole web say of a maker inside."""

import random
import unittest

from helpers import raised
from making import some_web
from needforth.courses import maker_of
from needforth.errors import AtOdds, BadSight, Lacking, NoHole, NoWay, Ringed, TooMany, Unseen
from needforth.inside import inside
from needforth.makers import Maker
from needforth.sights import Fits
from needforth.surely import surely
from needforth.tables import Table
from needforth.webs import Web
from needforth.webtext import read_web
from rowing import some_table

LINES = ("given g", "given k", "row x of h g: begin give; way 0 0 1 give", "row y of g: begin give; way 0 give give", "row h of y by f")


def filled(web, table):
    return web.filled((("f", maker_of((table,))),))


def come(web, row, given, taken):
    return surely(web, row, ((given, taken),)).count


class Inside(unittest.TestCase):
    def test_direct(self):
        # the row is that of the hole, so a sight of it is one of the maker
        web = read_web(("given g", "row h of g by f"))
        sights = ((5, 2), (0, 0), (9, 2))
        self.assertEqual(inside(web, "h", "g", sights), Fits.seen(sights))
        self.assertEqual(inside(sights=[[5, 2]], given="g", row="h", web=web), Fits.seen(((5, 2),)))
        self.assertEqual(inside(web, "h", "g", ()), Fits())

    def test_by_hand(self):
        web = read_web(LINES)
        # x asks h for 0, 2, 4, .. and g for 0, 1, 2, ..; of y come 1, 3, 5, .. from 0, 1, 2, .. of g
        for sights, above, lower in (
                (((3, 2),), ((2, 7),), ((4, 8),)), (((0, 1),), (), ()), (((1, 1),), (), ((2, 4),)), (((1, 2),), ((2, 3),), ()),
                (((9, 10),), ((18, 19),), ()), (((2, 2), (1, 1), (3, 3)), ((2, 5), (4, 7)), ((4, 6), (2, 4), (6, 8)))):
            self.assertEqual(inside(web, "x", "g", sights), Fits(above, lower), sights)
        for sights, number in ((((0, 2),), 0), (((3, 2), (3, 5), (0, 9)), 1), (((0, 0),), 0), (((5, 0),), 0), (((5, 1), (2, 4)), 1)):
            self.assertEqual(raised(Unseen, inside, web, "x", "g", sights), {"number": number})
        self.assertEqual(raised(AtOdds, inside, web, "x", "g", ((0, 1), (9, 2), (4, 3))), {"thing": (1, 0)})
        # y asks h for nothing: whatever stands there, just so many pieces come
        self.assertEqual(inside(web, "y", "g", ((0, 1), (4, 9))), Fits())
        for sight in ((0, 0), (0, 2), (4, 8), (4, 10)):
            self.assertEqual(raised(Unseen, inside, web, "y", "g", ((1, 3), sight)), {"number": 1})

    def test_far_places(self):
        web = read_web(("given g", "row x of h: begin; way" + " 0" * 599 + " give", "row h of g by f"))
        found = inside(web, "x", "g", ((10, 1), (20, 9)))
        self.assertEqual([found.above, found.below], [((599, 10), (5391, 20)), ((1198, 11), (5990, 21))])
        self.assertEqual(inside(web, "x", "g", ((5, 0),)).below, ((599, 6),))

    def test_any(self):
        chance = random.Random(331)
        seen = {"fits": 0, "not": 0, "odds": 0, "unseen": 0}
        for _ in range(700):
            web = some_web(chance, False)
            ones = [name for name, maker, sources in web.rows if maker.inlets == 1]
            if not ones or not web.givens:
                continue
            hole = chance.choice(ones)
            web = Web(web.givens, [(name, "f" if name == hole else maker, sources) for name, maker, sources in web.rows])
            row, given = chance.choice(list(web)), chance.choice(web.givens)
            tables = [some_table(chance), some_table(chance, 1), some_table(chance, 8)]
            sights = []
            for taken in [chance.randint(0, 12) for _ in range(3)]:
                count = come(filled(web, tables[0]), row, given, taken)
                if count is not None:
                    sights.append((taken, max(0, count + chance.choice([0] * 9 + [1, -1]))))
            try:
                found = inside(web, row, given, sights)
            except (Ringed, NoWay):
                continue
            except (Unseen, AtOdds) as error:
                seen["unseen" if isinstance(error, Unseen) else "odds"] += 1
                self.check_none(web, row, given, sights, error, tables)
                continue
            for table in tables + [found.least, found.greatest]:
                right = all(come(filled(web, table), row, given, taken) == count for taken, count in sights)
                self.assertIs(table in found, right, (web.rows, row, given, sights, table.head, table.loop, table.rise))
                seen["fits" if right else "not"] += 1
        self.assertGreater(min(seen["fits"], seen["not"]), 100, seen)
        self.assertGreater(min(seen["odds"], seen["unseen"]), 3, seen)

    def check_none(self, web, row, given, sights, error, tables):
        """None of some tables keeps all sights; for an unseen sight, none keeps this one, and the ones ahead are seen."""
        if isinstance(error, Unseen):
            inside_or_odds(web, row, given, sights[:error.number])
            sights = sights[error.number:error.number + 1]
        for table in tables + [Table((), (k,), rise) for k in range(4) for rise in range(3)] + [Table(())]:
            self.assertFalse(all(come(filled(web, table), row, given, taken) == count for taken, count in sights))


def inside_or_odds(web, row, given, sights):
    """The sights are all seen, though they may be at odds."""
    try:
        inside(web, row, given, sights)
    except AtOdds:
        pass


class Wrong(unittest.TestCase):
    def setUp(self):
        self.web = read_web(LINES)

    def test_no_hole(self):
        one = Maker(1, (), (("give",),))
        for rows in ((("x", one, ("g",)),), (("x", "f", ("g",)), ("y", "f", ("g",))), (("x", "f", ("g",)), ("y", "e", ("g",))),
                     (("x", "f", ("g", "g")),), (("x", "f", ("x", "x")),)):
            self.assertEqual(raised(NoHole, inside, Web(("g",), rows), None, None, None), {})

    def test_ringed(self):
        one = Maker(1, ("give",), ((0, "give"),))
        for rows in ((("h", "f", ("h",)),), (("x", one, ("h",)), ("h", "f", ("y",)), ("y", one, ("x",)))):
            self.assertEqual(raised(Ringed, inside, Web(("g",), rows), None, None, None), {"row": "h"})
        # a ring elsewhere is none at the row of the hole
        web = Web(("g",), (("x", Maker(2, ("give",), ((0, 1, "give"),)), ("x", "h")), ("h", "f", ("g",))))
        self.assertEqual(inside(web, "x", "g", ((3, 2),)), Fits(((1, 3),), ((2, 4),)))

    def test_rows_and_givens(self):
        for thing in ("g", "q", None, 0, True, ["x"], ("x",), "", "f"):
            self.assertIs(raised(Lacking, inside, self.web, thing, None, None)["thing"], thing)
        for thing in ("x", "q", None, 0, True, ["g"], ("g",), "", "f"):
            self.assertIs(raised(Lacking, inside, self.web, "x", thing, None)["thing"], thing)

    def test_no_way(self):
        self.assertEqual(raised(NoWay, inside, self.web, "x", "k", None), {"thing": "k"})
        web = read_web(("given g", "given k", "row x of k by f"))
        self.assertEqual(raised(NoWay, inside, web, "x", "g", None), {"thing": "g"})
        # what the source of the hole asks of the given has an end
        web = read_web(("given g", "row x of y by f", "row y of g: begin 0 0 give; way give"))
        self.assertEqual(raised(NoWay, inside, web, "x", "g", None), {"thing": "g"})
        web = read_web(("given g", "row x of y by f", "row y of g: begin 0 0 give; way 0"))
        self.assertEqual(inside(web, "x", "g", ((1, 0), (2, 1))), Fits(((1, 1),), ((1, 1), (2, 2))))

    def test_sights(self):
        for sights, number in ((None, -1), ("ab", -1), ({1: 2}, -1), ((None,), 0), (((0, 9), (1,)), 1), (((0, 9), (1, True)), 1),
                               (((0, 9),) * 61 + (0,), 61), (((1, None),), 0), (((-1, 0),), 0)):
            self.assertEqual(raised(BadSight, inside, self.web, "x", "g", sights), {"number": number})
        self.assertEqual(raised(TooMany, inside, self.web, "x", "g", ((0, 9),) * 61), {"word": "sight"})
        self.assertEqual(raised(Unseen, inside, self.web, "x", "g", ((0, 1), (0, 9), (9, 2), (4, 3))), {"number": 1})
        self.assertEqual(len(inside(self.web, "x", "g", ((3, 2),) * 60).above), 60)


if __name__ == "__main__":
    unittest.main()
