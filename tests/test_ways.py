"""[23]: what rows ask directly, and along ways and rings."""

import itertools
import random
import unittest

from helpers import raised
from making import some_web
from needforth.courses import greatest
from needforth.errors import Lacking, NoWay
from needforth.makers import Maker
from needforth.tables import Table
from needforth.tabletext import read_table
from needforth.ways import direct, ring_table, rings, way_table, ways
from needforth.webs import Web
from needforth.webtext import read_web

NOUGHT = Table((), (0,), 0)
LINES = ("given g", "given h", "row x of g y x: begin give; way 0 1 give 2; way 1 1 0 give",
         "row y of x x: begin; way 0 give 1", "row z of y g: begin; way 0 0 1 give give",
         "row w of w: begin give give; way 0 give; way 0")


def slow_ways(web, row):
    """All ways from a row and all rings at it, from all orders of all names."""
    names = list(web.givens) + list(web)
    trails = [way for many in range(1, len(names) + 1) for way in itertools.permutations(names, many)
              if way[0] == row and all(one in web.names and two in web[one][1] for one, two in zip(way, way[1:]))]
    round_ways = [way for way in trails if way[-1] in web.names and row in web[way[-1]][1]]
    return sorted(trails), sorted(round_ways)


class Direct(unittest.TestCase):
    def test_by_hand(self):
        web = read_web(LINES)
        wanted = {("x", "g"): "0 then 1 up 1", ("x", "y"): "0 then 2 up 2", ("x", "x"): "0 then 0 up 1",
                  ("x", "h"): "then 0 up 0", ("y", "x"): "then 1 up 1", ("z", "y"): "then 2 2 up 2",
                  ("z", "g"): "then 1 1 up 1", ("z", "z"): "then 0 up 0", ("w", "w"): "0 0 never", ("w", "x"): "then 0 up 0"}
        for (row, other), text in wanted.items():
            self.assertEqual(direct(web, row, other), read_table(text), (row, other))
        self.assertEqual(direct(other="y", row="z", web=web), read_table("then 2 2 up 2"))

    def test_greatest_over_inlets(self):
        chance = random.Random(231)
        for _ in range(60):
            web = some_web(chance, False)
            for row in web:
                maker, sources = web[row]
                for other in list(web.givens) + list(web):
                    tables = [greatest(maker, inlet) for inlet, name in enumerate(sources) if name == other]
                    found = direct(web, row, other)
                    for n in range(1, 40):
                        values = [table(n) for table in tables]
                        self.assertEqual(found(n), None if None in values else max(values, default=0))

    def test_errors(self):
        web = read_web(LINES)
        for thing in ("g", "q", None, 0, True, ["x"], ("x",), ""):
            self.assertIs(raised(Lacking, direct, web, thing, None)["thing"], thing)
            self.assertIs(raised(Lacking, ways, web, thing, None)["thing"], thing)
            self.assertIs(raised(Lacking, rings, web, thing)["thing"], thing)
        for thing in ("q", None, 0, True, ["x"], ("x",), ""):
            self.assertIs(raised(Lacking, direct, web, "x", thing)["thing"], thing)
            self.assertIs(raised(Lacking, ways, web, "x", thing)["thing"], thing)


class Ways(unittest.TestCase):
    def test_by_hand(self):
        web = read_web(LINES)
        self.assertEqual(ways(web, "z", "g"), (("z", "g"), ("z", "y", "x", "g")))
        self.assertEqual(ways(web, "z", "x"), (("z", "y", "x"),))
        self.assertEqual([ways(web, "z", "z"), ways(web, "w", "w")], [(("z",),), (("w",),)])
        self.assertEqual([ways(web, "x", "z"), ways(web, "z", "h"), ways(web, "w", "g")], [(), (), ()])
        self.assertEqual(ways(other="y", row="x", web=web), (("x", "y"),))
        self.assertEqual([rings(web, "x"), rings(web, "y"), rings(web, "z"), rings(row="w", web=web)],
                         [(("x",), ("x", "y")), (("y", "x"),), (), (("w",),)])

    def test_rings_of_all_names(self):
        lines = tuple("row " + one + " of " + two + " by f" for one, two in zip("abcdef", "bcdefa"))
        self.assertEqual(rings(read_web(lines), "c"), (tuple("cdefab"),))
        rows = tuple((name, "f", tuple(other for other in "abcd" if other != name)) for name in "abcd")
        web = Web((), rows)
        self.assertEqual(len(ways(web, "a", "b")), 5)
        self.assertEqual(rings(web, "b")[:3], (("b", "a"), ("b", "a", "c"), ("b", "a", "c", "d")))
        self.assertEqual(len(rings(web, "b")), 15)

    def test_any(self):
        chance = random.Random(232)
        for turn in range(40):
            web = some_web(chance, turn % 2 == 0)
            for row in list(web)[:2]:
                trails, round_ways = slow_ways(web, row)
                self.assertEqual(rings(web, row), tuple(round_ways))
                for other in list(web.givens) + list(web):
                    self.assertEqual(ways(web, row, other), tuple(way for way in trails if way[-1] == other))


class Tables(unittest.TestCase):
    def test_by_hand(self):
        web = read_web(LINES)
        self.assertEqual([way_table(web, ("z",)), way_table(web, ["x"])], [Table.shift(0)] * 2)
        wanted = direct(web, "x", "g") * direct(web, "y", "x") * direct(web, "z", "y")
        self.assertEqual(way_table(web, ("z", "y", "x", "g")), wanted)
        self.assertEqual(way_table(web, ["z", "y", "x", "g"]), wanted)
        self.assertEqual(way_table(way=("z", "g"), web=web), direct(web, "z", "g"))
        self.assertEqual(ring_table(web, ("x", "y")), direct(web, "y", "x") * direct(web, "x", "y"))
        self.assertEqual(ring_table(web, ["y", "x"]), direct(web, "x", "y") * direct(web, "y", "x"))
        self.assertEqual([ring_table(web, ("x",)), ring_table(ring=("w",), web=web)],
                         [direct(web, "x", "x"), direct(web, "w", "w")])

    def test_any(self):
        chance = random.Random(233)
        many = 0
        for _ in range(40):
            web = some_web(chance, False)
            for row in web:
                trails, round_ways = slow_ways(web, row)
                for way in trails[:6]:
                    table = way_table(web, way)
                    for n in range(12):
                        value = n
                        for one, two in zip(way, way[1:]):
                            value = direct(web, one, two)(value)
                        self.assertEqual(table(n), value)
                for ring in round_ways[:3]:
                    back = direct(web, ring[-1], row)
                    self.assertEqual(ring_table(web, ring), back * way_table(web, ring))
                    many += 1
        self.assertGreater(many, 50)

    def test_no_ways(self):
        web = read_web(LINES)
        for thing in (None, "x", 0, (), [], ("g",), ("g", "x"), ("q",), ("x", "q"), ("x", "q", "y"), ("x", "z"), ("x", "x"),
                      ("x", "y", "x"), ("x", "g", "x"), ("x", None), (None,), (["x"],), (("x", "y"),), {"x": 1}, (True,),
                      ["z", "x"], ("z", "y", "g"), ("w", "w")):
            self.assertIs(raised(NoWay, way_table, web, thing)["thing"], thing)
            self.assertIs(raised(NoWay, ring_table, web, thing)["thing"], thing)
        for thing in (("z",), ("y",), ("z", "y"), ["z", "g"], ("x", "g"), ("z", "y", "x")):
            self.assertTrue(way_table(web, thing).__class__ is Table)
            self.assertIs(raised(NoWay, ring_table, web, thing)["thing"], thing)


if __name__ == "__main__":
    unittest.main()
