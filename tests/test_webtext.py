"""[21]: webs as lines."""

import random
import unittest

from helpers import raised
from making import some_maker
from needforth.errors import BadLine, BadName, BadRow, Lacking, Twice
from needforth.makers import Maker
from needforth.webs import Web
from needforth.webtext import read_web, write_web

EXAMPLE = ("given g", "row x of g x: begin give; way 0 give; way 0 1 give give", "row y of x by f")
ROW = "row x of x: begin; way 0 give"


def some_web(chance):
    names = chance.sample(["a", "b", "by", "of", "given", "row", "begin", "way", "give", "abcdefgh", "x"], 9)
    givens = names[:chance.randint(0, 3)]
    made = names[3:3 + chance.randint(1, 6)]
    inlets = {name: chance.randint(1, 3) for name in ("f", "by", "of")}
    rows = []
    for name in made:
        maker = chance.choice([some_maker(chance), chance.choice(list(inlets))])
        many = inlets[maker] if isinstance(maker, str) else maker.inlets
        rows.append((name, maker, tuple(chance.choice(givens + made) for _ in range(many))))
    return Web(givens, rows)


class Writing(unittest.TestCase):
    def test_example(self):
        maker = Maker(2, ("give",), ((0, 1, "give"),))
        web = Web(("g",), (("x", maker, ("g", "x")), ("y", "f", ("x",))))
        self.assertEqual(write_web(web), ("given g", "row x of g x: begin give; way 0 1 give", "row y of x by f"))
        self.assertEqual(write_web(web=read_web(lines=EXAMPLE)), EXAMPLE)

    def test_empty_beginning(self):
        web = Web((), (("x", Maker(3, (), ((2,), (1, "give"))), ("x", "x", "x")),))
        self.assertEqual(write_web(web), ("row x of x x x: begin; way 2; way 1 give",))
        self.assertEqual(read_web(write_web(web)), web)

    def test_any(self):
        chance = random.Random(211)
        for _ in range(300):
            web = some_web(chance)
            lines = write_web(web)
            self.assertIs(lines.__class__, tuple)
            self.assertEqual(len(lines), len(web.givens) + len(web))
            self.assertEqual(read_web(lines), web)
            self.assertEqual(read_web(list(lines)), web)
            self.assertEqual(write_web(read_web(lines)), lines)

    def test_long_makers(self):
        web = Web((), (("x", Maker(1, ("give", 0) * 300, (("give",) * 600,)), ("x",)),
                       ("y", Maker(1, (), ((0,) * 24,) * 4), ("y",))))
        self.assertEqual(read_web(write_web(web)), web)


class Reading(unittest.TestCase):
    def wrong(self, line):
        self.assertEqual(raised(BadLine, read_web, (line,)), {"line": 0}, line)
        self.assertEqual(raised(BadLine, read_web, ["given x", ROW, line, line, ROW]), {"line": 2}, line)

    def test_no_lines(self):
        for lines in (None, (), [], ROW, 3, (ROW,) * 10, (ROW, 1), (ROW, None), (1, "row"), {ROW: 1}, (ROW, (ROW,)),
                      (ROW, True), ("wrong", b"row")):
            self.assertEqual(raised(BadLine, read_web, lines), {"line": -1})

    def test_given_lines(self):
        for line in ("", " ", "given", "given ", "given  g", " given g", "given g ", "given g h", "given G", "given abcdefghi",
                     "given 1", "Given g", "given g:", "given: g", "g", "given given g", "given_g"):
            self.wrong(line)
        self.assertEqual(raised(BadLine, read_web, ("given g", ROW, "given h")), {"line": 2})
        self.assertEqual(raised(BadLine, read_web, (ROW, "given x", "wrong")), {"line": 1})
        self.assertEqual(raised(BadLine, read_web, ("given h", "wrong", ROW, "given x")), {"line": 1})

    def test_rows_with_makers(self):
        for line in (
                "row x of x: begin", "row x of x: begin;", "row x of x: begin ; way 0", "row x of x:begin; way 0",
                "row x of x : begin; way 0", "row x of x:  begin; way 0", "row x of x: begin;way 0", "row x of x: begin;  way 0",
                "row x of x: begin; way", "row x of x: begin; way ", "row x of x: begin; way 0 ", "row x of x: begin; way  0",
                "row x of x: begin; way 0;", "row x of x: begin; way 0; ", "row x of x: begin; way 0; way",
                "row x of x: begin; way 1", "row x of x x: begin 2; way 0", "row x of x: begin; way 00", "row x of x: begin; way -1",
                "row x of x: begin; way +0", "row x of x: begin; way Give", "row x of x: begin; way take",
                "row x of x: begin give give ; way 0", "row x of x: beginning; way 0", "row x of x: begin; ways 0",
                "row x of x: way 0; begin", "row x of x: way 0", "row x of x: begin; way 0: way 0", "row x of x:: begin; way 0",
                "row x of: begin; way 0", "row x of : begin; way 0", "row x: begin; way 0", "row: begin; way 0", ": begin; way 0",
                "row  of x: begin; way 0", "row x of x  x: begin; way 0", "row x  of x: begin; way 0", " " + ROW, ROW + " ",
                "row x of x x x x: begin; way 0", "row x of X: begin; way 0", "row x of abcdefghi: begin; way 0",
                "row X of x: begin; way 0", "row x in x: begin; way 0", "Row x of x: begin; way 0",
                "row abcdefghi of x: begin; way 0", "row x of x by f: begin;", "row x of x: by f", "row x of x by f:",
                "row x of x: begin" + "; way 0" * 5, "row x of x: begin" + " give" * 601 + "; way 0",
                "row x of x: begin; way" + " give" * 601, "row x of x: begin; way 0; way" + " 0" * 25,
                "row x of x: begin; way 0 :", "row x of x; begin; way 0", "row x of x: begin, way 0", "row x of x: begin; way \u0660",
                "row x of x: begin; begin; way 0", "row x of x: begin; way 0 1", "row x of x; begin: way 0"):
            self.wrong(line)

    def test_rows_with_unknown_makers(self):
        for line in (
                "row x of x by", "row x of x by ", "row x of x by f ", "row x of x  by f", "row x of x by  f", "row x of x by abc",
                "row x of x by F", "row x of x by 1", "row x of by f", "row x of f", "row x of x f", "row x by f", "row x of x with f",
                "row x of x x x x by f", "row x of", "row x", "row", "row of x by f", "row x of x", "row x of x by f g",
                "row x of x, y by f", "row x of 0 by f", "row x x of x by f"):
            self.wrong(line)

    def test_words_that_are_names(self):
        web = read_web(("given given", "row of of of by by", "row by of by by: begin; way 1 give",
                        "row row of given by of", "row way of begin: begin; way give", "row begin of way by by a"))
        self.assertEqual([web["of"], web["row"], web["begin"]],
                         [("by", ("of",)), ("of", ("given",)), ("a", ("way", "by"))])
        self.assertEqual(web["by"], (Maker(2, (), ((1, "give"),)), ("by", "by")))
        self.assertEqual(web["way"], (Maker(1, (), (("give",),)), ("begin",)))

    def test_errors_of_webs(self):
        self.assertEqual(raised(BadName, read_web, tuple("given " + name for name in "abcd") + (ROW,)), {"number": -1})
        self.assertEqual(raised(BadRow, read_web, ("given a", "given a")), {"number": -1})
        self.assertEqual(raised(BadRow, read_web, ("given a",) + (ROW,) * 7), {"number": -1})
        self.assertEqual(raised(BadRow, read_web, ("given x", ROW, "row y of x by f", "row x of x y by f")), {"number": 2})
        self.assertEqual(raised(Twice, read_web, ("given x", "row y of z by f", ROW)), {"name": "x"})
        self.assertEqual(raised(Lacking, read_web, ("given g", "row y of g z by f", ROW)), {"thing": "z"})
        self.assertEqual(raised(BadLine, read_web, ("given a",) * 4 + ("row x of x by f x",)), {"line": 4})


if __name__ == "__main__":
    unittest.main()
