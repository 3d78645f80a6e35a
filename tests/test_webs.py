"""[20]: webs and their errors."""

import unittest

from helpers import raised
from needforth.errors import BadMakers, BadName, BadRow, Lacking, Missing, Open, Twice
from needforth.makers import Maker
from needforth.tables import Table
from needforth.ways import direct, ring_table, rings, way_table, ways
from needforth.webs import Web, check_closed

ONE = Maker(1, (), ((0, "give"),))
TWO = Maker(2, ("give",), ((0, 1, "give"),))
THREE = Maker(3, (), ((0, 1, 2, "give"),))
NO_NAMES = ("", "A", "a1", "a b", "abcdefghi", None, 3, True, ("a",), "a_", "\u00e9", b"a", [], {})
ROW = ("x", ONE, ("x",))


class Making(unittest.TestCase):
    def test_attributes(self):
        rows = [["x", TWO, ["g", "x"]], ("y", "f", ["x"])]
        web = Web(rows=rows, givens=["g", "h"])
        self.assertEqual(web.givens, ("g", "h"))
        self.assertEqual(web.rows, (("x", TWO, ("g", "x")), ("y", "f", ("x",))))
        self.assertTrue(all(kept.__class__ is tuple for kept in (web.givens, web.rows) + web.rows))
        self.assertTrue(all(row[2].__class__ is tuple for row in web.rows))
        self.assertEqual(rows, [["x", TWO, ["g", "x"]], ("y", "f", ["x"])])

    def test_equal(self):
        web = Web(("g",), (("x", ONE, ("g",)), ("y", "f", ("x",))))
        self.assertTrue(web == Web(["g"], [["x", Maker(1, (), ((0, "give"),)), ["g"]], ["y", "f", ["x"]]]))
        for other in (Web(("g", "h"), web.rows), Web(("g",), web.rows[::-1]), Web(("g",), web.rows[:1]),
                      Web(("g",), (("x", "a", ("g",)), ("y", "f", ("x",)))), Web(("g",), (web.rows[0], ("y", "f", ("g",)))),
                      web.rows, (web.givens, web.rows), "g", None, ONE, Table(())):
            self.assertFalse(web == other)
            self.assertTrue(web != other)

    def test_numbers(self):
        self.assertEqual(Web((), (ROW,)).givens, ())
        self.assertEqual(Web(("a", "b", "abcdefgh"), (ROW,)).givens, ("a", "b", "abcdefgh"))
        rows = tuple((name, THREE, ("f", name, "a")) for name in "abcdef")
        self.assertEqual(Web((), rows).rows, rows)
        self.assertEqual(Web(("f",), (("x", THREE, ("f", "f", "f")), ("y", "ab", ("x", "x", "y")))).opens, ("ab",))

    def test_getting(self):
        web = Web(("g",), (("x", TWO, ("g", "x")), ("y", "f", ("x",))))
        self.assertEqual([web["x"], web["y"]], [(TWO, ("g", "x")), ("f", ("x",))])
        for thing in ("g", "z", "f", "", None, 0, True, ["x"], ("x",), {}, ONE):
            found = raised(Lacking, web.__getitem__, thing)["thing"]
            self.assertIs(found, thing)
            self.assertIs(thing in web, thing == "g")
        self.assertTrue("x" in web and "y" in web)
        self.assertEqual([list(web), tuple(web), len(web), [name for name in web]],
                         [["x", "y"], ("x", "y"), 2, ["x", "y"]])

    def test_opens(self):
        web = Web((), (("x", "b", ("x",)), ("y", ONE, ("x",)), ("z", "a", ("x", "y")), ("w", "b", ("y",)),
                       ("v", "by", ("w", "w", "v"))))
        self.assertEqual(web.opens, ("b", "a", "by"))
        self.assertEqual(Web((), (ROW,)).opens, ())


class Wrong(unittest.TestCase):
    def test_names(self):
        for givens in (None, "abc", 3, ("a",) * 4, [1] * 4, {"a": 1}, True):
            self.assertEqual(raised(BadName, Web, givens, None), {"number": -1})
        for name in NO_NAMES:
            self.assertEqual(raised(BadName, Web, (name,), None), {"number": 0})
            self.assertEqual(raised(BadName, Web, ["a", "a", name], None), {"number": 2})

    def test_rows(self):
        for rows in (None, (), [], "abc", 3, (ROW,) * 7, [1] * 7, {0: ROW}):
            self.assertEqual(raised(BadRow, Web, (), rows), {"number": -1})
        wrong = [(name, ONE, ("x",)) for name in NO_NAMES]
        wrong += [("y", maker, ("x",)) for maker in (None, 1, True, "", "abc", "A", "a1", ("f",), Table(()), ["f"])]
        wrong += [("y", "f", (name,)) for name in NO_NAMES]
        wrong += [("y", "f", sources) for sources in (None, "x", (), ("x",) * 4, 1, {"x": 1}, ("x", None))]
        wrong += [("y", maker, ("x",) * many) for maker, inlets in ((ONE, 1), (TWO, 2), (THREE, 3)) for many in range(5)
                  if many != inlets]
        wrong += [("y", ONE, "x"), ("y", ONE), ("y", ONE, ("x",), ()), ("y",), (), None, "xyz", 5, ROW[:2] + (1,)]
        for row in wrong:
            self.assertEqual(raised(BadRow, Web, (), (row,)), {"number": 0}, row)
            self.assertEqual(raised(BadRow, Web, ("x", "x"), [ROW, ROW, row, row]), {"number": 2}, row)

    def test_unknown_makers_at_several_rows(self):
        rows = (("a", "f", ("a", "b")), ("b", "f", ("a", "c")), ("c", "g", ("a",)), ("d", "f", ("a",)))
        self.assertEqual(raised(BadRow, Web, (), rows), {"number": 3})
        self.assertEqual(raised(BadRow, Web, (), rows[:2] + (("c", "g", ("a",) * 4),) + rows[3:]), {"number": 2})
        self.assertEqual(len(Web((), rows[:3] + (("d", "f", ("d", "d")),))), 4)

    def test_twice_and_lacking(self):
        for givens, rows, name in (
                (("g", "h", "g"), (("h", ONE, ("z",)),), "g"), (("g", "h"), (("x", ONE, ("z",)), ("h", ONE, ("x",))), "h"),
                ((), (("x", ONE, ("x",)), ("y", ONE, ("q",)), ("y", ONE, ("x",)), ("x", ONE, ("x",))), "y")):
            self.assertEqual(raised(Twice, Web, givens, rows), {"name": name})
        for rows, name in (((("x", TWO, ("x", "q")), ("y", ONE, ("p",))), "q"), ((("x", ONE, ("y",)),), "y"),
                           ((("x", "f", ("y", "g")), ("y", ONE, ("f",))), "f")):
            self.assertEqual(raised(Lacking, Web, ("g",), rows), {"thing": name})


class Filling(unittest.TestCase):
    def setUp(self):
        self.web = Web(("g",), (("x", "f", ("g", "x")), ("y", ONE, ("x",)), ("z", "e", ("y",)), ("w", "f", ("z", "z"))))

    def test_filled(self):
        for makers in ((("f", TWO), ("e", ONE)), [["e", ONE], ["f", TWO]]):
            web = self.web.filled(makers)
            self.assertEqual(web, Web(("g",), (("x", TWO, ("g", "x")), ("y", ONE, ("x",)), ("z", ONE, ("y",)),
                                               ("w", TWO, ("z", "z")))))
            self.assertEqual(web.opens, ())
            self.assertEqual(web.filled(makers=()), web)
        self.assertEqual(self.web.opens, ("f", "e"))

    def wrong(self, makers, number):
        self.assertEqual(raised(BadMakers, self.web.filled, makers), {"number": number})

    def test_makers(self):
        for makers in (None, "fe", 3, {"f": TWO}, TWO):
            self.wrong(makers, -1)
        for pair in (None, "fe", (), ("f",), ("e", ONE, ONE), ("f", ONE), ("e", TWO), ("e", "f"), ("h", ONE), ("x", ONE),
                     (None, ONE), (["e"], ONE), (True, ONE), ("f", None), ("g", ONE), ("f", ("f", TWO)), (ONE, "e")):
            self.wrong((pair,), 0)
            self.wrong((("e", ONE), pair, None), 1)
        self.wrong((("f", TWO), ("e", ONE), ("f", TWO)), 2)
        closed = Web((), (ROW,))
        self.assertEqual(raised(BadMakers, closed.filled, (("x", ONE),)), {"number": 0})

    def test_missing(self):
        self.assertEqual(raised(Missing, self.web.filled, ()), {"name": "f"})
        self.assertEqual(raised(Missing, self.web.filled, (("e", ONE),)), {"name": "f"})
        self.assertEqual(raised(Missing, self.web.filled, [("f", TWO)]), {"name": "e"})


class Opens(unittest.TestCase):
    def test_closed_webs_are_wanted(self):
        web = Web((), (("x", "h", ("x",)), ("y", "a", ("x",))))
        for call, args in ((direct, (None, None)), (way_table, (None,)), (ring_table, ("x",)), (direct, ("x", "y")),
                           (way_table, (("x",),)), (ring_table, (("x",),))):
            self.assertEqual(raised(Open, call, web, *args), {"name": "h"})
        self.assertEqual(raised(Open, check_closed, web), {"name": "h"})
        self.assertIsNone(check_closed(Web((), (ROW,))))
        self.assertEqual([ways(web, "y", "x"), rings(web, "x")], [(("y", "x"),), (("x",),)])


if __name__ == "__main__":
    unittest.main()
