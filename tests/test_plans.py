"""[28]: whole plans, the least ones, and what must be stored for them."""

import random
import unittest

from helpers import raised
from making import some_web
from needforth.comparing import gap
from needforth.courses import greatest, least
from needforth.errors import BadPaces, BadPlan, Missing, NoPace, NotWhole, Open
from needforth.makers import Maker
from needforth.paces import kept
from needforth.plans import Planned, latest, planned, stores
from needforth.tables import Table
from needforth.tabletext import read_table, write_table
from needforth.verdicts import Verdict
from needforth.webs import Web
from needforth.webtext import read_web
from rowing import some_table
from test_paces import is_more, one_more

NEVER = Table(())
NOUGHT = Table((), (0,), 0)
STAGES = 60


def read_plan(text):
    """The plan of parts such as `x: then 1 up 1`, with slashes between them."""
    parts = [part.split(": ") for part in text.split(" / ")]
    return tuple((name, read_table(table)) for name, table in parts)


def first_fault(web, plan):
    """The row, the inlet and the stage at which a plan is not whole by the words of [28], looked at up to some stage."""
    paces = dict(plan)
    for row, maker, sources in web.rows:
        for inlet, source in enumerate(sources):
            for n in range(1, STAGES):
                if is_more(greatest(maker, inlet)(paces[row](n)), paces[source](n)):
                    return row, inlet, n
        told = kept(web, row, paces[row], [(given, paces[given]) for given in web.givens])
        if not told.holds and told.stage < STAGES:
            return row, None, told.stage
    return None


class Plans(unittest.TestCase):
    def test_attributes(self):
        web = read_web(("given g", "row x of g x: begin give; way 0 1 give"))
        told = planned(plan=[["x", Table.shift(0)], ["g", Table.shift(0)]], web=web)
        self.assertTrue(told and told.holds is True and isinstance(told, Planned) and isinstance(told, Verdict))
        self.assertEqual([told.row, told.inlet, told.stage], [None, None, None])
        told = planned(web, (("x", Table.shift(1)), ("g", Table((1,), (1,), 0))))
        self.assertTrue(not told and told.holds is False)
        self.assertEqual([told.row, told.inlet, told.stage], ["x", 0, 2])

    def test_by_hand(self):
        lines = ("given g", "given h", "row x of g y: begin; way 0 1 1 give", "row y of h y: begin give; way 0 1 give")
        for text, wanted in (
                ("g: then 1 up 1 / x: then 1 up 1 / y: then 2 up 2 / h: then 1 up 2", None),
                ("g: never / h: never / x: never / y: never", None),
                ("g: then 0 up 0 / h: then 0 up 0 / x: then 0 up 0 / y: then 0 up 0", None),
                ("g: then 0 up 0 / h: then 0 up 0 / x: then 0 up 0 / y: then 1 up 0", None),
                ("g: then 0 up 0 / h: then 0 up 0 / x: then 0 up 0 / y: 1 then 2 up 0", ("y", 0, 2)),
                # a row may have fewer pieces than could come, its source not
                ("g: then 9 up 1 / h: never / x: then 1 up 1 / y: then 2 up 2", None),
                ("g: then 1 up 1 / h: never / x: then 1 up 1 / y: 2 4 5 then 8 up 2", ("x", 1, 3)),
                ("g: then 1 1 up 1 / h: never / x: then 1 up 1 / y: then 2 up 1", ("x", 0, 2)),
                ("g: then 1 up 1 / h: never / x: then 1 up 1 / y: then 2 up 1", ("x", 1, 2)),
                ("g: never / h: 5 5 never / x: 0 0 3 never / y: 0 0 6 never", None),
                ("g: never / h: 5 5 9 then 9 up 0 / x: 0 0 3 never / y: 0 0 6 never", ("x", None, 4)),
                ("g: 5 5 5 then 5 up 0 / h: never / x: 0 0 3 never / y: 0 0 6 never", ("x", 0, 4))):
            told = planned(read_web(lines), read_plan(text))
            self.assertEqual((told.row, told.inlet, told.stage) if not told.holds else None, wanted, text)

    def test_only_a_pace_is_not_kept_up(self):
        web = read_web(("given g", "row x of x: begin give; way 0 give; way 0 0 give"))
        # two pieces of x are enough for the second one, but they must come first
        for text, wanted in (("g: then 0 up 0 / x: then 1 up 0", None), ("g: then 0 up 0 / x: 1 then 3 up 1", ("x", 0, 2)),
                             ("x: 1 1 2 never / g: never", ("x", None, 3))):
            told = planned(web, read_plan(text))
            self.assertEqual((told.row, told.inlet, told.stage) if not told.holds else None, wanted, text)
        web = read_web(("row x of x: begin; way 0 give",))
        told = planned(web, (("x", Table((0, 0, 1), (4,), 2)),))
        self.assertEqual([told.holds, told.row, told.inlet, told.stage], [False, "x", None, 3])
        web = read_web(("row z of z: begin give; way 0 give", "row x of y: begin; way 0 give", "row y of x: begin; way 0 give"))
        told = planned(web, read_plan("z: never / x: 0 then 1 up 0 / y: never"))
        self.assertEqual([told.row, told.inlet, told.stage], ["x", None, 2])

    def test_far_stage(self):
        web = read_web(("given g", "row x of g: begin; way 0 0 give"))
        told = planned(web, (("g", Table((), (10 ** 9,), 19)), ("x", Table((), (1,), 10))))
        # at stage n it asks for 20 n - 18 of 10 ** 9 + 19 (n - 1)
        self.assertEqual([told.row, told.inlet, told.stage], ["x", 0, 10 ** 9])
        self.assertTrue(planned(web, (("g", Table((), (10 ** 9,), 20)), ("x", Table((), (1,), 10)))).holds)

    def test_any(self):
        chance = random.Random(281)
        found = {True: 0, "inlet": 0, "pace": 0}
        for _ in range(250):
            web = some_web(chance, False)
            plan = self.plan(chance, web)
            told = planned(web, plan)
            fault = first_fault(web, plan)
            if told.holds or told.stage >= STAGES:
                self.assertTrue(fault is None or not told.holds, (web.rows, fault))
            else:
                self.assertEqual((told.row, told.inlet, told.stage), fault)
            found[told.holds or ("pace" if told.inlet is None else "inlet")] += 1
        self.assertGreater(min(found.values()), 15, found)

    def plan(self, chance, web):
        """A plan by chance, whole ones and such as have no pace that can be kept up among them."""
        names = list(web.givens) + list(web)
        if chance.random() < 0.3:
            plan = [(name, NEVER) for name in names]
        else:
            wanted = [(row, some_table(chance, 1) * Table.shift(-chance.randint(0, 4))) for row in web if chance.random() < 0.4]
            good = [pair for pair in wanted if kept(web, *pair).holds]
            plan = list(latest(web, good))
            at = chance.randrange(len(plan))
            if chance.random() < 0.6:
                plan[at] = (plan[at][0], one_more(plan[at][1], 4) if plan[at][1](4) is not None else NEVER)
        chance.shuffle(plan)
        return tuple(plan)


class Latest(unittest.TestCase):
    def test_example(self):
        web = read_web(("given g", "row x of g: begin; way 0 0 give; way 0 give"))
        plan = latest(web, (("x", Table.shift(0)),))
        self.assertEqual([plan[0][1].rate, stores(web, plan)[0][2].most], [(2, 1), None])
        plan = (("g", Table((), (7,), 0)), ("x", Table((), (2,), 0)))
        self.assertEqual(stores(web, plan)[0][2].most, 5)

    def test_by_hand(self):
        lines = ("given g", "given h", "row x of g y: begin; way 0 1 1 give", "row y of h y: begin give; way 0 1 give",
                 "row z of x: begin 0 0 give; way give", "row w of h: begin; way 0 0 0 give")
        for wanted, plan in (
                ("x: then 1 up 1", "g: then 1 up 1 / h: then 1 up 2 / x: then 1 up 1 / y: then 2 up 2 / z: then 0 up 0 / w: then 0 up 0"),
                ("w: 0 then 1 up 1 / y: then 3 up 0",
                 "g: then 0 up 0 / h: 2 then 3 up 3 / x: then 0 up 0 / y: then 3 up 0 / z: then 0 up 0 / w: then 0 up 1"),
                ("z: 0 1 never", "g: 0 then 2 up 0 / h: 0 then 3 up 0 / x: 0 then 2 up 0 / y: 0 then 4 up 0 / z: 0 1 never / w: then 0 up 0"),
                ("z: never / x: 1 2 never",
                 "g: 2 2 never / h: 3 3 never / x: 2 2 never / y: 4 4 never / z: never / w: then 0 up 0")):
            found = latest(read_web(lines), read_plan(wanted))
            self.assertEqual(" / ".join(name + ": " + write_table(table) for name, table in found), plan)
        web = read_web(lines)
        self.assertEqual(latest(web, ()), tuple((name, NOUGHT) for name in "ghxyzw"))
        self.assertEqual(latest(wanted=[["x", Table.shift(0)]], web=web), latest(web, (("x", Table.shift(0)),)))

    def test_any(self):
        chance = random.Random(282)
        seen = {"lost": 0, "less": 0, "whole": 0}
        for _ in range(150):
            web = some_web(chance, False)
            wanted = [(row, some_table(chance, 1) * Table.shift(-chance.randint(0, 4))) for row in web if chance.random() < 0.5]
            stages = [told.stage for told in [kept(web, row, table) for row, table in wanted] if not told.holds]
            if stages:
                self.assertEqual(raised(NoPace, latest, web, wanted), {"stage": min(stages)})
                seen["lost"] += 1
                wanted = [pair for pair in wanted if kept(web, *pair).holds]
            plan = latest(web, wanted)
            self.assertEqual([name for name, _ in plan], list(web.givens) + list(web))
            self.assertTrue(planned(web, plan).holds, (web.rows, wanted))
            seen["whole"] += 1
            self.check_least(web, dict(wanted), dict(plan), seen)
        self.assertGreater(min(seen.values()), 50, seen)

    def check_least(self, web, wanted, paces, seen):
        """At each stage the least numbers by the words: what is wanted, and what the rows ask for."""
        for n in range(1, 12):
            numbers = {name: 0 for name in paces}
            for row, table in wanted.items():
                numbers[row] = table(n)
            changed = True
            while changed:
                changed = False
                for row, maker, sources in web.rows:
                    for inlet, source in enumerate(sources):
                        asked = greatest(maker, inlet)(numbers[row])
                        if is_more(asked, numbers[source]):
                            numbers[source] = asked
                            changed = True
            self.assertEqual({name: table(n) for name, table in paces.items()}, numbers)
        for name, table in paces.items():
            if table(7) not in (0, None) and (name not in wanted or wanted[name](7) != table(7)):
                less = dict(paces)
                less[name] = one_more(table, 7, -1)
                self.assertFalse(planned(web, tuple(less.items())).holds)
                seen["less"] += 1


class Stores(unittest.TestCase):
    def test_by_hand(self):
        web = read_web(("given g", "row x of g y: begin give; way 0 1 1 give; way 0 0 give", "row y of g: begin; way give 0"))
        plan = read_plan("g: then 3 up 2 / x: then 2 up 1 / y: then 2 up 2")
        found = stores(plan=plan, web=web)
        self.assertEqual([(row, inlet) for row, inlet, _ in found], [("x", 0), ("x", 1), ("y", 0)])
        # x takes n pieces of g at least, and perhaps none of y; y takes 2 n - 1
        self.assertEqual([one.most for _, _, one in found], [None, None, 2])
        self.assertEqual([found[0][2].beyond(5), found[1][2].beyond(3), found[2][2].place], [5, 2, 1])

    def test_never(self):
        web = read_web(("given g", "row x of g: begin; way 0 give", "row y of g: begin 0 give 0; way give"))
        # a stage at which all pieces are taken does not count, one at which endlessly many lie there does
        for text, most, places in (("g: 3 never / x: 1 never / y: then 0 up 0", (2, None), (1, None)),
                                   ("g: 3 3 9 then 9 up 0 / x: 1 2 then 2 up 0 / y: 0 never", (7, 7), (3, 3)),
                                   ("g: 3 3 never / x: 1 2 never / y: then 0 up 0", (2, None), (1, None))):
            found = stores(web, read_plan(text))
            self.assertEqual((tuple(one.most for _, _, one in found), tuple(one.place for _, _, one in found)), (most, places))

    def test_any(self):
        chance = random.Random(283)
        for _ in range(60):
            web = some_web(chance, False)
            wanted = [(row, some_table(chance, 1)) for row in web if chance.random() < 0.5]
            plan = latest(web, [pair for pair in wanted if kept(web, *pair).holds])
            paces = dict(plan)
            found = stores(web, plan)
            self.assertEqual([(row, inlet) for row, inlet, _ in found],
                             [(row, inlet) for row, maker, _ in web.rows for inlet in range(maker.inlets)])
            for row, inlet, told in found:
                maker, sources = web[row]
                wanted = gap(paces[sources[inlet]], least(maker, inlet) * paces[row])
                self.assertEqual([told.most, told.place], [wanted.most, wanted.place])
                self.check(told, paces[sources[inlet]], least(maker, inlet), paces[row])

    def check(self, told, source, table, pace):
        """At no stage more lies there, and at some stage just so many pieces do."""
        left = []
        for n in range(0, 40):
            taken = table(pace(n))
            if taken is not None:
                left.append(None if source(n) is None else source(n) - taken)
        if told.most is not None:
            self.assertTrue(all(many is not None and many <= told.most for many in left))
            if told.place < 40:
                self.assertIn(told.most, left)
        elif None not in left:
            self.assertIsNotNone(told.beyond(max(left)))

    def test_not_whole(self):
        web = read_web(("given g", "row x of g: begin; way 0 give", "row y of x: begin; way 0 give", "row z of z: begin; way 0 give"))
        for text, row in (("g: never / x: never / y: never / z: never", "z"), ("g: never / x: then 1 up 1 / y: never / z: never", "y"),
                          ("g: then 1 up 1 / x: then 1 up 1 / y: then 2 up 1 / z: then 0 up 0", "y"),
                          ("g: then 1 up 1 / x: then 2 up 1 / y: never / z: never", "x")):
            self.assertEqual(raised(NotWhole, stores, web, read_plan(text)), {"row": row})


class Wrong(unittest.TestCase):
    def setUp(self):
        self.web = read_web(("given g", "given h", "row x of g: begin; way 0 give", "row z of z: begin give; way 0 0 give"))
        self.plan = tuple((name, NOUGHT) for name in "ghxz")

    def test_open(self):
        web = Web(("g",), (("x", Maker(1, (), (("give",),)), ("g",)), ("y", "b", ("x",)), ("z", "a", ("x",))))
        for call in (planned, latest, stores):
            for thing in (None, (), self.plan):
                self.assertEqual(raised(Open, call, web, thing), {"name": "b"})

    def test_plan(self):
        for call in (planned, stores):
            for plan in (None, "g", 3, {"g": NOUGHT}, NOUGHT):
                self.assertEqual(raised(BadPlan, call, self.web, plan), {"number": -1})
            for pair in (None, "gh", (), ("g",), ("g", NOUGHT, NOUGHT), ("q", NOUGHT), (None, NOUGHT), (["g"], NOUGHT), (True, NOUGHT),
                         ("g", None), ("g", 3), ("g", "never"), (NOUGHT, "g"), ("z", (NOUGHT,)), ("h", NOUGHT)):
                self.assertEqual(raised(BadPlan, call, self.web, (("h", NOUGHT), pair, None)), {"number": 1}, pair)
            self.assertEqual(raised(BadPlan, call, self.web, [["x", NOUGHT], ["g", NOUGHT], ["x", NOUGHT]]), {"number": 2})

    def test_missing(self):
        for call in (planned, stores):
            for names, lacking in (("", "g"), ("hxz", "g"), ("xzg", "h"), ("hg", "x"), ("gzh", "x"), ("ghx", "z")):
                self.assertEqual(raised(Missing, call, self.web, [(name, NOUGHT) for name in names]), {"name": lacking})

    def test_wanted(self):
        for wanted in (None, "x", 3, {"x": NOUGHT}, NOUGHT):
            self.assertEqual(raised(BadPaces, latest, self.web, wanted), {"number": -1})
        for pair in (None, "xz", (), ("x",), ("x", NOUGHT, NOUGHT), ("g", NOUGHT), ("q", NOUGHT), (None, NOUGHT), (["x"], NOUGHT),
                     (True, NOUGHT), ("x", None), ("x", 3), ("x", "never"), ("z", NOUGHT)):
            self.assertEqual(raised(BadPaces, latest, self.web, [("z", NEVER), pair, None]), {"number": 1}, pair)

    def test_no_pace(self):
        web = read_web(("row x of x: begin give; way 0 0 give", "row y of y: begin give give; way 0 0 0 give"))
        for wanted, stage in (((("x", Table((1,))),), 2), ((("x", Table((1, 1, 1))), ("y", Table((1, 2, 3)))), 3),
                              ((("y", Table((1, 2, 2, 2, 3))), ("x", Table((0, 0, 0, 2)))), 4), ((("x", NOUGHT), ("y", NEVER)), 1)):
            self.assertEqual(raised(NoPace, latest, web, wanted), {"stage": stage})


if __name__ == "__main__":
    unittest.main()
