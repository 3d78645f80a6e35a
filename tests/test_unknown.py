"""[29] and [30]: terms of what is asked in webs of unknown makers, and what comes for ever whatever they need."""

import random
import unittest

from helpers import raised
from needforth.courses import greatest, maker_of
from needforth.errors import AtOdds, BadFact, Lacking, NotShift, NoWay, TooMany
from needforth.everywhere import everywhere
from needforth.facts import keep
from needforth.makers import Maker
from needforth.surely import surely
from needforth.tables import Table
from needforth.terms import samples_of, value_of
from needforth.termtext import read_saying, write_term
from needforth.unknown import Forever, ask_term, forever, ring_terms
from needforth.verdicts import Verdict
from needforth.ways import direct, ring_table, rings, way_table, ways
from needforth.webs import Web
from needforth.webtext import read_web


def shifting(*shifts):
    """A maker that asks at its inlets by these shifts."""
    begin = [inlet for inlet, k in enumerate(shifts) for _ in range(max(0, k))]
    for place in range(1, -min(shifts + (0,)) + 1):
        begin.extend(inlet for inlet, k in enumerate(shifts) if place + k > 0)
        begin.append("give")
    return Maker(len(shifts), begin, (tuple(range(len(shifts))) + ("give",),))


def some_open_web(chance, most=4, shift=3):
    """A web with unknown makers and such as ask by shifts."""
    rows = []
    unknown = {}
    names = list("abcd")[:chance.randint(1, most)]
    for name in names:
        sources = tuple(chance.choice(names + ["g"]) for _ in range(chance.choice([1, 1, 2, 3])))
        maker = shifting(*[chance.randint(-shift, shift) for _ in sources])
        if chance.random() < 0.6:
            maker = chance.choice("ef") + str(len(sources)).replace("1", "").replace("2", "b").replace("3", "c")
        rows.append((name, maker, sources))
    return Web(("g",), rows)


def some_facts(chance, web):
    names = [maker + str(inlet) for maker in web.opens for inlet in range(4)] + ["q", "zz9"]
    shift = lambda: ("shift", chance.randint(-6, 3))
    return tuple(chance.choice([(chance.choice(names), chance.choice(names)), (chance.choice(names), shift()),
                                (chance.choice(names), shift()), (shift(), chance.choice(names))])
                 for _ in range(chance.randint(0, 6)))


def inlet_names(web):
    return {maker + str(inlet) for _, maker, sources in web.rows if isinstance(maker, str) for inlet in range(len(sources))}


def filled(web, tables):
    tables = dict(tables)
    many = {maker: len(sources) for _, maker, sources in web.rows if isinstance(maker, str)}
    return web.filled([(name, maker_of([tables[name + str(inlet)] for inlet in range(many[name])])) for name in web.opens])


class Terms(unittest.TestCase):
    def test_shifts(self):
        for shifts in ((0,), (9,), (-9,), (3, -2), (-1, -4, 7), (-9, 9, 0)):
            maker = shifting(*shifts)
            self.assertEqual([greatest(maker, inlet) for inlet in range(len(shifts))], [Table.shift(k) for k in shifts])

    def test_example(self):
        web = read_web(("row x of y: begin give; way 0 give", "row y of x by f"))
        self.assertEqual([write_term(ring_terms(web, "x")[0][1]), forever(web, "x").holds,
                          forever(web, "x", (read_saying("f0 <= +0"),)).holds], ["f0 * -1", False, True])

    def test_direct_terms(self):
        rows = [("x", "f", ("y", "g", "y")), ("y", shifting(9, -9), ("x", "x")), ("z", "ab", ("z", "y")),
                ("w", shifting(0, 2, -1), ("g", "h", "g"))]
        web = Web(("g", "h"), rows)
        for row, other, text in (("x", "y", "f0 & f2"), ("y", "x", "+9 & -9"), ("z", "y", "ab1"), ("w", "h", "+2"),
                                 ("w", "g", "+0 & -1"), ("y", "g", "f1 * (+9 & -9)"), ("z", "x", "(+9 & -9) * ab1"),
                                 ("x", "g", "f1"), ("z", "g", "f1 * ((+9 & -9) * ab1)")):
            self.assertEqual(write_term(ask_term(web, row, other)), text)
        self.assertEqual(ask_term(web, "z", "g"), ("behind", "f1", ("behind", ("both", ("shift", 9), ("shift", -9)), "ab1")))
        self.assertEqual(ask_term(other="y", row="x", web=web), ("both", "f0", "f2"))
        self.assertEqual(ring_terms(web, "z"), ((("z",), "ab0"),))
        self.assertEqual(ring_terms(row="x", web=web),
                         ((("x", "y"), ("behind", ("both", ("shift", 9), ("shift", -9)), ("both", "f0", "f2"))),))
        self.assertEqual(ring_terms(web, "w"), ())

    def test_joined(self):
        web = Web(("g",), (("x", "f", ("y", "z", "g")), ("y", "h", ("z", "g", "z")), ("z", "e", ("g",))))
        self.assertEqual(write_term(ask_term(web, "x", "g")), "f2 & h1 * f0 & e0 * ((h0 & h2) * f0) & e0 * f1")
        self.assertEqual(ask_term(web, "x", "z"), ("both", ("behind", ("both", "h0", "h2"), "f0"), "f1"))
        web = Web(("g",), (("x", "f", ("g", "g", "g")),))
        self.assertEqual(ask_term(web, "x", "g"), ("both", ("both", "f0", "f1"), "f2"))

    def test_any(self):
        chance = random.Random(291)
        many = 0
        for _ in range(60):
            web = some_open_web(chance)
            tables = {name: Table((), (chance.randint(0, 2),), chance.randint(1, 2)) for name in sorted(inlet_names(web))}
            closed = filled(web, tables)
            told = tuple(tables.items())
            for row in web:
                for other in ["g"] + [name for name in web if name != row]:
                    found = ways(web, row, other)
                    if not found:
                        self.assertEqual(raised(NoWay, ask_term, web, row, other), {"thing": other})
                        continue
                    if sum(way_parts(web, way) + 1 for way in found) > 61:
                        self.assertEqual(raised(TooMany, ask_term, web, row, other), {"word": "part"})
                        continue
                    wanted = way_table(closed, found[0])
                    for way in found[1:]:
                        wanted = wanted & way_table(closed, way)
                    self.assertEqual(value_of(ask_term(web, row, other), told), wanted)
                    many += 1
                self.assertEqual([ring for ring, _ in ring_terms(web, row)], list(rings(web, row)))
                for ring, term in ring_terms(web, row):
                    self.assertEqual(value_of(term, told), ring_table(closed, ring))
        self.assertGreater(many, 100)

    def test_59_and_61_parts(self):
        # the terms of ways have an odd number of parts, and so have both of two such terms
        for rows, size in ((("abcd", "bcg", "cgd", "dbgg"), 59), (("abcd", "bdc", "cdbg", "dggg"), 61)):
            web = Web(("g",), [(row[0], row[0], tuple(row[1:])) for row in rows])
            ends = [way_parts(web, way) for way in ways(web, "a", "g")]
            self.assertEqual(sum(ends) + len(ends) - 1, size)
            if size > 60:
                self.assertEqual(raised(TooMany, ask_term, web, "a", "g"), {"word": "part"})
            else:
                self.assertEqual(parts(ask_term(web, "a", "g")), size)


def parts(term):
    return 1 if isinstance(term, str) or term[0] == "shift" else 1 + sum(parts(part) for part in term[1:])


def way_parts(web, way):
    """The parts of the term of a way by the words of [29]."""
    sizes = [2 * web[one][1].count(two) - 1 for one, two in zip(way, way[1:])]
    return sum(sizes) + len(sizes) - 1


class EverComing(unittest.TestCase):
    def test_attributes(self):
        web = read_web(("row x of y: begin give; way 0 give", "row y of x by f"))
        told = forever(facts=[["f0", ["shift", 0]]], row="x", web=web)
        self.assertTrue(told and told.holds is True and isinstance(told, Forever) and isinstance(told, Verdict))
        self.assertEqual([told.ring, told.tables, told.count], [None, None, None])
        told = forever(web, "x", (("q", "f0"),))
        self.assertTrue(not told and told.holds is False)
        self.assertIn(told.ring, (("x", "y"), ("y", "x")))
        self.assertEqual([name for name, _ in told.tables], ["f0", "q"])
        self.assertTrue(all(thing.__class__ is tuple for thing in (told.ring, told.tables) + told.tables))
        self.assertEqual(surely(filled(web, told.tables), "x").count, told.count)

    def holds(self, lines, facts, row="x"):
        return forever(read_web(lines), row, [read_saying(text) for text in facts]).holds

    def test_shifts_and_ceilings(self):
        for ahead in range(0, 10):
            lines = ("row x of y: begin" + " give" * ahead + "; way 0 give", "row y of x by f")
            for ceiling in range(-9, 10):
                # x waits for itself unless it gives more ahead than y asks beyond
                self.assertIs(self.holds(lines, ("f0 <= " + "{:+d}".format(ceiling),)), ceiling < ahead, (ahead, ceiling))

    def test_by_hand(self):
        two = ("given g", "row x of y g by f", "row y of x x: begin give give 0 give; way 0 1 give", "row z of x: begin; way 0 give")
        for facts, wanted in (((), False), (("f0 <= +2",), False), (("f0 <= +1",), True), (("f0 <= q", "q <= +0"), True),
                              (("q <= +0",), False), (("f0 <= f1", "f1 <= +0"), True), (("f1 <= f0", "f1 <= +0"), False),
                              (("f0 <= q", "q <= p", "p <= -3", "-9 <= q"), True), (("+2 <= f0",), False)):
            for row in "xyz":
                self.assertIs(self.holds(two, facts, row), wanted, facts)
        # rows that wait for themselves, but to which no way leads
        apart = ("row x of y by f", "row y of y: begin give; way 0 give", "row z of z by e")
        self.assertEqual([self.holds(apart, (), row) for row in "xyz"], [True, True, False])
        self.assertEqual([self.holds(apart, ("e0 <= -1",), row) for row in "xyz"], [True, True, True])
        self.assertIs(self.holds(("row x of x: begin; way 0 give",), ()), False)
        self.assertIs(self.holds(("row x of x: begin give; way 0 give",), ()), True)

    def test_closed_web(self):
        told = forever(read_web(("row x of y: begin; way 0 give", "row y of y: begin; way 0 give")), "x", (("q", "p"),))
        self.assertEqual([told.holds, told.ring, [name for name, _ in told.tables], told.count], [False, ("y",), ["p", "q"], 0])

    def check(self, web, row, facts):
        told = forever(web, row, facts)
        reached = [name for name in web if ways(web, row, name)]
        sayings = {ring: (term, ("shift", -1)) for name in reached for ring, term in ring_terms(web, name)}
        self.assertIs(told.holds, all(everywhere(saying, facts).holds for saying in sayings.values()))
        if told.holds:
            return told
        self.assertIn(told.ring, sayings)
        self.assertFalse(everywhere(sayings[told.ring], facts).holds)
        names = inlet_names(web) | {term for fact in facts for term in fact if isinstance(term, str)}
        self.assertEqual([name for name, _ in told.tables], sorted(names))
        self.assertTrue(all(table.steady for _, table in told.tables))
        self.assertTrue(keep(told.tables, facts))
        self.assertIsNotNone(told.count)
        self.assertEqual(surely(filled(web, told.tables), row).count, told.count)
        return told

    def test_any(self):
        chance = random.Random(301)
        found = {True: 0, False: 0, "odd": 0, "many": 0}
        for _ in range(400):
            web, row = some_open_web(chance), "a"
            facts = some_facts(chance, web)
            try:
                told = self.check(web, row, facts)
                found[told.holds] += 1
                if told.holds:
                    self.check_fillings(chance, web, row, facts)
            except AtOdds as error:
                found["odd"] += 1
                self.assertEqual(raised(AtOdds, everywhere, ("q", "q"), facts), {"thing": error.thing})
            except TooMany as error:
                found["many"] += 1
                self.assertEqual(error.word, "sample")
                reached = [name for name in web if ways(web, row, name)]
                self.assertGreater(max(samples_of(term) for name in reached for _, term in ring_terms(web, name)), 11)
        self.assertGreater(min(found[True], found[False], found["odd"]), 15, found)

    def check_fillings(self, chance, web, row, facts):
        """Whatever steady tables keep the facts, the row comes for ever."""
        names = sorted(inlet_names(web) | {term for fact in facts for term in fact if isinstance(term, str)})
        for _ in range(30):
            tables = [(name, Table((0,) * chance.randint(0, 3), (chance.randint(0, 1),), 1)) for name in names]
            if keep(tables, facts):
                self.assertIsNone(surely(filled(web, tables), row).count)

    def test_tables_are_small_enough(self):
        # rings in which a piece waits for itself late, makers of three inlets, and floors that ask for much
        nine = shifting(-9)
        rows = [("a", "f", ("b", "g", "g"))] + [(one, nine, (two,)) for one, two in zip("bcdef", "cdefa")]
        floors = (("shift", 9), "f1"), (("shift", 9), "f2"), ("f0", "f1")
        for web in (Web(("g",), rows), Web(("g",), rows[:1] + [("b", "f", ("c", "g", "g"))] + rows[2:])):
            for facts in ((), floors, (("f0", ("shift", 9)),)):
                told = self.check(web, "a", facts)
                self.assertIs(told.holds, facts[-1:] == (("f0", ("shift", 9)),))
        web = Web(("g",), rows[:1] + [(one, shifting(9), (two,)) for one, two in zip("bcdef", "cdefa")])
        for facts in ((), (("f0", ("shift", -9)),), (("f0", ("shift", -9)),) + floors[:2]):
            self.assertFalse(self.check(web, "a", facts).holds)

    def test_samples(self):
        rows = [("a", "f", ("b", "b", "b")), ("b", "e", ("c", "c", "c")), ("c", "d", ("d", "d", "d")), ("d", "ca", ("a", "a"))]
        web = Web((), rows)
        self.assertEqual(max(samples_of(term) for _, term in ring_terms(web, "a")), 11)
        self.check(web, "a", (("f0", ("shift", 0)),))
        for last in (("d", "cc", ("a", "a", "a")), ("d", "cb", ("d", "a", "a"))):
            web = Web((), rows[:3] + [last])
            more = samples_of(dict(ring_terms(web, "a"))[tuple("abcd")]) > 11
            self.assertIs(more, last[1] == "cc")
            if more:
                self.assertEqual(raised(TooMany, forever, web, "a", None), {"word": "sample"})
                self.assertEqual(raised(TooMany, forever, web, "d"), {"word": "sample"})
            else:
                self.check(web, "a", (("f0", ("shift", 0)),))
        # a ring to which no way leads may have more
        web = Web((), rows[:3] + [("d", "cc", ("a", "a", "a")), ("x", "y", ("x",))])
        self.assertFalse(forever(web, "x").holds)


class Wrong(unittest.TestCase):
    def test_not_shift(self):
        good = shifting(-9, 9)
        for maker in (Maker(1, (), (("give",),)), Maker(1, (), ((0, 0, "give"),)), Maker(1, (), ((0, "give"), (0,))), Maker(1, (), ((0,),)),
                      shifting(10), shifting(-10), Maker(1, (), ((0, "give"), (0, 0, "give"))), Maker(1, (), ((0, 0, "give", "give"),)),
                      Maker(1, (0,), ((0, "give", 0, "give"), (0, 0, "give", "give"))), Maker(1, ("give",) * 20, ((0, "give"),))):
            web = Web((), (("x", "f", ("x",)), ("z", good, ("y", "y")), ("y", maker, ("y",)), ("w", maker, ("y",))))
            for call, args in ((ask_term, (None, None)), (ring_terms, (None,)), (forever, (None, None)), (forever, ("x",)),
                               (ask_term, ("x", "y")), (ring_terms, ("x",))):
                self.assertEqual(raised(NotShift, call, web, *args), {"row": "y"})
        two = Maker(2, (), ((0, 1, 1, "give"),))
        self.assertEqual(raised(NotShift, ring_terms, Web((), (("x", two, ("x", "x")),)), "x"), {"row": "x"})
        self.assertEqual(write_term(dict(ring_terms(Web((), (("z", good, ("z", "z")),)), "z"))[("z",)]), "-9 & +9")
        several = Maker(1, (0,), ((0, "give"), ("give",)))
        self.assertEqual(ring_terms(Web((), (("z", several, ("z",)),)), "z"), ((("z",), ("shift", 1)),))

    def test_lacking(self):
        web = read_web(("given g", "row x of y by f", "row y of y: begin; way 0 give"))
        for thing in ("g", "q", None, 0, True, ["x"], ("x",), "", "f"):
            self.assertIs(raised(Lacking, ask_term, web, thing, None)["thing"], thing)
            self.assertIs(raised(Lacking, ring_terms, web, thing)["thing"], thing)
            self.assertIs(raised(Lacking, forever, web, thing, None)["thing"], thing)
        for thing in ("x", "q", None, 0, True, ["x"], ("x",), "", "f"):
            self.assertIs(raised(Lacking, ask_term, web, "x", thing)["thing"], thing)
        self.assertEqual(raised(NoWay, ask_term, web, "x", "g"), {"thing": "g"})
        self.assertEqual(raised(NoWay, ask_term, web, "y", "x"), {"thing": "x"})

    def test_facts(self):
        web = read_web(("row x of x by f",))
        for facts, number in ((None, -1), ("f", -1), ((None,), 0), ((("f0", "f0"), ("f0",)), 1), ((("f0", ("shift", 10)),), 0),
                              ((("f0", ("shift", True)),), 0), (([["shift", 1], ["shift", 1]],), 0), ((("f0", "q"),) * 6 + (1,), 6)):
            self.assertEqual(raised(BadFact, forever, web, "x", facts), {"number": number})
        self.assertEqual(raised(TooMany, forever, web, "x", (("f0", "q"),) * 7), {"word": "fact"})
        odd = ((("shift", 2), "q"), ("q", "p"), ("p", ("shift", 1)))
        self.assertEqual(raised(AtOdds, forever, web, "x", odd), {"thing": "q"})
        apart = read_web(("row x of x: begin give; way 0 give",))
        self.assertEqual(raised(AtOdds, forever, apart, "x", odd[::-1]), {"thing": "p"})


if __name__ == "__main__":
    unittest.main()
