"""[26]: paces that rows keep up, the earliest ones, and the least ones of the givens."""

import random
import unittest

from helpers import raised
from making import some_web
from needforth.errors import BadPace, BadPaces, Lacking, NoPace, Open
from needforth.makers import Maker
from needforth.paces import Kept, earliest, kept, least_paces
from needforth.surely import judge_chain, surely
from needforth.tables import Table
from needforth.tabletext import read_table, write_table
from needforth.verdicts import Verdict
from needforth.webs import Web
from needforth.webtext import read_web
from rowing import some_paces, some_table

STAGES = 25
NEVER = Table(())
NOUGHT = Table((), (0,), 0)


def counts_at(paces, stage):
    return tuple((given, table(stage)) for given, table in paces if table(stage) is not None)


def is_more(value, other):
    """Whether a count or never is greater than another one."""
    return other is not None and (value is None or value > other)


def one_more(table, stage, step=1):
    """The table with one piece more at one stage, and at those behind where it has to be; or one less."""
    values = [table(n) for n in range(1, stage + 40)]
    there = values[stage - 1] + step
    if step > 0:
        values = values[:stage - 1] + [value if value is None else max(value, there) for value in values[stage - 1:]]
    else:
        values = [min(value, there) for value in values[:stage]] + values[stage:]
    head = [value for value in values if value is not None]
    if len(head) < len(values) or not table.loop:
        return Table(head)
    behind = Table(head, (head[-1],), 0)
    return behind & table if step > 0 else behind | table if table.rise else Table(head, (head[-1],), 0)


class KeptPaces(unittest.TestCase):
    def test_example(self):
        web = read_web(("given g", "row x of g: begin; way 0 0 give"))
        told = kept(web, "x", Table.shift(0), (("g", Table.shift(1)),))
        self.assertEqual([told.holds, told.stage, told.wanted, told.found.count,
                          least_paces(web, "x", Table.shift(0))[0][1].loop], [False, 2, 2, 1, (2,)])

    def test_attributes(self):
        web = read_web(("given g", "given h", "row x of g h: begin; way 0 1 give"))
        told = kept(web, "x", Table.shift(0))
        self.assertTrue(told.holds is True and told and isinstance(told, Kept) and isinstance(told, Verdict))
        self.assertEqual([told.stage, told.wanted, told.found], [None, None, None])
        told = kept(paces=[["h", Table.shift(-3)], ["g", Table((5,))]], pace=Table((0,), (1,), 0), row="x", web=web)
        self.assertTrue(told.holds is False and not told)
        self.assertEqual([told.stage, told.wanted], [2, 1])
        self.assertEqual([told.found.row, told.found.count, told.found.chain], ["x", 0, (("x", 1), ("h", 1))])
        self.assertTrue(judge_chain(web, "x", (("h", 0),), told.found.chain))

    def told(self, lines, pace, *paces):
        told = kept(read_web(lines), "x", read_table(pace), [(name, read_table(text)) for name, text in paces])
        return told.stage if told.found is None else (told.stage, told.wanted, told.found.count)

    def test_by_hand(self):
        one = ("given g", "row x of g: begin give; way 0 give")
        ring = ("row x of x: begin give give; way 0 give",)
        for lines, pace, paces, wanted in (
                (one, "then 2 up 1", [("g", "then 1 up 1")], None), (one, "then 3 up 1", [("g", "then 1 up 1")], (1, 3, 2)),
                (one, "0 0 0 never", [("g", "0 0 0 never")], None), (one, "0 0 0 never", [("g", "0 0 0 0 never")], (4, None, 1)),
                (one, "5 7 never", [], None), (ring, "never", [], None), (one, "1 then 1 9 up 8", [("g", "0 0 never")], None),
                (one, "then 1 up 0", [("g", "then 0 up 0")], None), (one, "1 then 2 up 0", [("g", "then 0 up 0")], (2, 2, 1)),
                (("row x of x: begin give give; way 0 0 give",), "1 2 3 4 never", [], (4, 4, 3)),
                (("row x of x: begin give give; way 0 0 give",), "1 1 never", [], (3, None, 3))):
            self.assertEqual(self.told(lines, pace, *paces), wanted, (lines, pace, paces))

    def test_far_stages(self):
        one = ("given g", "row x of g: begin; way 0 give")
        # 100 pieces ahead, and a piece less for each 10 stages
        self.assertEqual(self.told(one, "then 1 up 1", ("g", "then 101 102 103 104 105 106 107 108 109 109 up 9")),
                         (1010, 1010, 1009))
        self.assertEqual(self.told(one, "then 1 up 1", ("g", "then 101 102 103 104 105 106 107 108 109 110 up 10")), None)
        great = 10 ** 40
        web = read_web(one)
        told = kept(web, "x", Table((), (great,), 3), (("g", Table((), (2 * great,), 2)),))
        self.assertEqual([told.stage, told.wanted, told.found.count], [great + 2, 4 * great + 3, 4 * great + 2])

    def test_any(self):
        chance = random.Random(261)
        found = [0, 0]
        for _ in range(100):
            web = some_web(chance, False)
            row = chance.choice(list(web))
            paces = some_paces(chance, web.givens)
            pace = some_table(chance, 2) if chance.random() < 0.7 else some_table(chance, 1) * Table.shift(-1)
            told = kept(web, row, pace, paces)
            stages = [n for n in range(1, STAGES) if is_more(pace(n), surely(web, row, counts_at(paces, n)).count)]
            if told.holds or told.stage >= STAGES:
                self.assertEqual(stages, [])
            else:
                self.assertEqual(told.stage, stages[0])
            if not told.holds:
                count = surely(web, row, counts_at(paces, told.stage)).count
                self.assertEqual([told.wanted, told.found.count, told.found.row], [pace(told.stage), count, row])
                self.assertTrue(is_more(told.wanted, count))
                self.assertTrue(judge_chain(web, row, counts_at(paces, told.stage), told.found.chain))
            found[told.holds] += 1
        self.assertGreater(min(found), 20)


class Earliest(unittest.TestCase):
    def test_by_hand(self):
        web = read_web(("given g", "given h", "row x of g h: begin give; way 0 1 1 give", "row y of y: begin give; way 0 give",
                        "row z of z: begin give; way 0 0 give"))
        for row, paces, text in (("x", (), "never"), ("x", (("g", Table.shift(0)),), "then 2 up 1"), ("y", (), "never"),
                                 ("x", (("h", Table.shift(0)),), "then 1 2 up 1"), ("z", (), "then 1 up 0"),
                                 ("x", (("g", Table((1, 2))), ("h", Table((1, 2, 6)))), "1 2 4 never"),
                                 ("z", (("g", NOUGHT),), "then 1 up 0"), ("x", (("g", NOUGHT),), "then 1 up 0")):
            self.assertEqual(write_table(earliest(web, row, paces)), text)
        self.assertEqual(earliest(paces=[["g", Table.shift(0)]], row="x", web=web), Table.shift(1))

    def test_any(self):
        chance = random.Random(262)
        for _ in range(60):
            web = some_web(chance, False)
            paces = some_paces(chance, web.givens, 0.9)
            for row in list(web)[:2]:
                found = earliest(web, row, paces)
                for n in list(range(1, STAGES)) + [60, 61, 62, 63]:
                    self.assertEqual(found(n), surely(web, row, counts_at(paces, n)).count, (web.rows, paces, n))
                self.assertTrue(kept(web, row, found, paces).holds)
                for stage in (1, 2, 7, 20):
                    if found(stage) is not None:
                        told = kept(web, row, one_more(found, stage), paces)
                        self.assertEqual([told.holds, told.stage], [False, stage])
                        self.assertEqual(told.wanted, told.found.count + 1)


class LeastPaces(unittest.TestCase):
    def test_by_hand(self):
        web = read_web(("given g", "given h", "row x of g y: begin give; way 0 1 1 give", "row y of g: begin; way 0 0 0 give",
                        "row z of z: begin give; way 0 0 give"))
        for row, pace, texts in (("x", "then 1 up 1", ["then 0 up 6", "then 0 up 0"]), ("y", "1 then 1 up 0", ["then 3 up 0", "then 0 up 0"]),
                                 ("y", "1 never", ["3 never", "then 0 up 0"]), ("z", "then 1 up 0", ["then 0 up 0"] * 2)):
            found = least_paces(web, row, read_table(pace))
            self.assertEqual([(name, write_table(table)) for name, table in found], list(zip("gh", texts)))
        self.assertEqual(least_paces(pace=Table.shift(0), row="y", web=web), (("g", Table((), (3,), 3)), ("h", NOUGHT)))
        self.assertEqual(least_paces(read_web(("row x of x: begin give; way 0 give",)), "x", NEVER), ())

    def test_any(self):
        chance = random.Random(263)
        lost = less = 0
        for _ in range(120):
            web = some_web(chance, False)
            row = chance.choice(list(web))
            pace = some_table(chance, 2) * Table.shift(-chance.randint(0, 3))
            told = kept(web, row, pace)
            if not told.holds:
                self.assertEqual(raised(NoPace, least_paces, web, row, pace), {"stage": told.stage})
                lost += 1
                continue
            found = least_paces(web, row, pace)
            self.assertEqual([name for name, _ in found], list(web.givens))
            self.assertTrue(kept(web, row, pace, found).holds)
            for name, table in found:
                self.assertTrue(kept(web, row, pace, ((name, table),)).holds)
                for stage in (1, 2, 5, 12):
                    if table(stage) not in (0, None):
                        told = kept(web, row, pace, ((name, one_more(table, stage, -1)),))
                        self.assertEqual([told.holds, told.stage <= stage], [False, True])
                        less += 1
        self.assertGreater(lost, 20)
        self.assertGreater(less, 50)


class Wrong(unittest.TestCase):
    def setUp(self):
        self.web = read_web(("given g", "given h", "row x of g: begin; way 0 give", "row z of z: begin give; way 0 0 give"))

    def test_open(self):
        web = Web(("g",), (("x", Maker(1, (), (("give",),)), ("g",)), ("y", "b", ("x",)), ("z", "a", ("x",))))
        for call, args in ((kept, (None, None, None)), (earliest, (None, None)), (least_paces, (None, None)),
                           (kept, ("x", NEVER)), (earliest, ("x",)), (least_paces, ("x", NEVER))):
            self.assertEqual(raised(Open, call, web, *args), {"name": "b"})

    def test_rows(self):
        for thing in ("g", "q", None, 0, True, ["x"], ("x",), "", NEVER):
            self.assertIs(raised(Lacking, kept, self.web, thing, None, None)["thing"], thing)
            self.assertIs(raised(Lacking, earliest, self.web, thing, None)["thing"], thing)
            self.assertIs(raised(Lacking, least_paces, self.web, thing, None)["thing"], thing)

    def test_pace(self):
        for pace in (None, "then 1 up 1", 3, (1, 2), ((), (1,), 1), self.web):
            self.assertEqual(raised(BadPace, kept, self.web, "x", pace, None), {})
            self.assertEqual(raised(BadPace, least_paces, self.web, "z", pace), {})

    def test_paces(self):
        for paces in (None, "g", 3, {"g": NEVER}, NEVER):
            self.assertEqual(raised(BadPaces, kept, self.web, "x", NEVER, paces), {"number": -1})
            self.assertEqual(raised(BadPaces, earliest, self.web, "x", paces), {"number": -1})
        for pair in (None, "gh", (), ("g",), ("g", NEVER, NEVER), ("x", NEVER), ("q", NEVER), (None, NEVER), (["g"], NEVER),
                     (True, NEVER), ("g", None), ("g", 3), ("g", "never"), (NEVER, "g"), ("g", (NEVER,)), ("g", ((), (1,), 1))):
            self.assertEqual(raised(BadPaces, kept, self.web, "x", NEVER, (pair,)), {"number": 0}, pair)
            self.assertEqual(raised(BadPaces, earliest, self.web, "x", [("h", NEVER), pair, None]), {"number": 1}, pair)
        self.assertEqual(raised(BadPaces, kept, self.web, "x", NEVER, (("g", NEVER), ("h", NEVER), ("g", NEVER))), {"number": 2})

    def test_no_pace(self):
        for pace, stage in ((NEVER, 1), (Table((1, 1)), 3), (Table((1, 2, 3, 9)), 2), (Table.shift(0), 2), (Table.shift(-7), 9)):
            self.assertEqual(raised(NoPace, least_paces, self.web, "z", pace), {"stage": stage})


if __name__ == "__main__":
    unittest.main()
