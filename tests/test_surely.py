"""[24] and [25]: what surely comes, chains and their judge, and needs on givens."""

import random
import unittest

from helpers import raised
from making import slow_need, some_web
from needforth.courses import greatest
from needforth.errors import BadCounts, Lacking, Open
from needforth.makers import Maker
from needforth.running import run
from needforth.surely import Surely, judge_chain, need, surely
from needforth.tables import Table
from needforth.tabletext import read_table, write_table
from needforth.verdicts import Verdict
from needforth.webs import Web
from needforth.webtext import read_web
from rowing import CAP, most_needs, slow_numbers, some_counts, some_courses, within_cap

LINES = ("given g", "row x of g x: begin give; way 0 1 give", "row y of x y: begin; way 0 1 give")
GREAT = 10 ** 59


def slow_judge(web, row, counts, chain):
    """[24] by its words, for a tuple of pairs of names of the web and integers."""
    counts = dict(counts)
    if not chain or chain[0][0] != row or any(piece < 1 or piece is True for _, piece in chain):
        return False
    for (name, piece), (source, asked) in zip(chain, chain[1:]):
        if name in web.givens or source not in web[name][1]:
            return False
        maker, sources = web[name]
        values = [greatest(maker, inlet)(piece) for inlet in range(maker.inlets) if sources[inlet] == source]
        if None not in values and asked > max(values):
            return False
    *ahead, last = chain
    names = [name for name, _ in ahead]
    if len(set(names)) < len(names) or last[0] in names and last not in ahead:
        return False
    if last in ahead:
        return True
    if last[0] in web.givens:
        return last[0] in counts and last[1] > counts[last[0]]
    maker, _ = web[last[0]]
    return any(greatest(maker, inlet)(last[1]) is None for inlet in range(maker.inlets))


def changed(chance, web, chain):
    """Chains like this one: a piece more or less, another name, a pair struck out, put in or twice, True for 1."""
    names = list(web.givens) + list(web)
    found = [chain + chain[-1:], chain + chain[:1], chain + chain, chain[::-1], chain[:-1], chain[1:], ()]
    for at, (name, piece) in enumerate(chain):
        ahead, behind = chain[:at], chain[at + 1:]
        for pair in ((name, piece + 1), (name, piece - 1), (name, True if piece == 1 else 1), (name, 10 * piece),
                     (chance.choice(names), piece), ("q", piece), (name, 0), (name, -piece)):
            found.append(ahead + (pair,) + behind)
        found.append(ahead + behind)
        found.append(ahead + ((name, piece), (name, piece)) + behind)
        found.append(ahead + ((chance.choice(names), chance.randint(1, piece)),) + chain[at:])
        found.append(chain[:at + 1] + ((chance.choice(names), chance.randint(1, piece)),) + behind)
        found.append(chain + ((chance.choice(names), chance.randint(1, piece)),))
    return found


class Counts(unittest.TestCase):
    def test_example(self):
        web = read_web(LINES)
        self.assertEqual([surely(web, "x").count, surely(web, "y").count, surely(web, "x", (("g", 3),)).count],
                         [None, 0, 4])

    def test_attributes(self):
        web = read_web(LINES)
        told = surely(web, "x")
        self.assertTrue(told and told.holds is True and isinstance(told, Surely) and isinstance(told, Verdict))
        self.assertEqual([told.row, told.count, told.chain, told.courses], ["x", None, None, None])
        told = surely(counts=[["g", 3]], row="x", web=web)
        self.assertTrue(told.holds is False and not told)
        self.assertEqual([told.row, told.count, told.chain], ["x", 4, (("x", 5), ("g", 4))])
        self.assertEqual([row for row, _ in told.courses], ["x", "y"])
        self.assertEqual(run(web, told.courses, (("g", 3),)), (("x", 4), ("y", 0)))

    def count(self, lines, row="x", counts=()):
        return surely(read_web(lines), row, counts).count

    def test_by_hand(self):
        wanted = (
            # a maker that may stop giving, and one that takes without end and gives no more
            (("row x of x: begin give give; way 0 give; way 0",), 2), (("row x of x: begin; way give; way 0",), 0),
            (("row x of x: begin give; way 0",), 1), (("given g", "row x of g: begin give give; way 0; way give"), 2),
            # for ever on one course and not on another
            (("row x of x: begin give; way 0 give; way 0 0 give",), 1),
            (("row x of x: begin give give give; way 0 give; way 0 0 give",), 5),
            (("row x of x: begin give give give; way 0 give; way 0 0 give give",), None),
            (("row x of y: begin; way 0 give; way give", "row y of y: begin; way 0 give"), 0),
            (("row x of y: begin give; way 0 give", "row y of x: begin; way 0 give; way 0 0 give give give"), 1),
            (("row x of y: begin give; way 0 give", "row y of x: begin give; way 0 give; way 0 0 give give give"), None),
            (("row x of y z: begin give; way 0 1 give", "row y of x: begin; way 0 give", "row z of z: begin; way 0 give"), 1),
            (("row x of y z: begin give; way 0 1 give", "row y of x: begin; way 0 give", "row z of y: begin; way give"), None))
        for lines, count in wanted:
            self.assertEqual(self.count(lines), count, lines)

    def test_counts(self):
        lines = ("given g", "given h", "row x of g h: begin; way 0 give; way 1 1 give")
        for counts, count in (((), None), ((("g", 0),), 0), ((("h", 0),), 0), ((("g", 7),), 7), ((("h", 7),), 3),
                              ((("g", 3), ("h", 8)), 3), ((("g", 3), ("h", 4)), 2), ((("h", GREAT), ("g", GREAT)), GREAT // 2)):
            self.assertEqual(self.count(lines, "x", counts), count, counts)
        lines = ("given g", "row x of g: begin; way 0 give", "row y of y: begin give; way 0 give")
        self.assertEqual(self.count(lines, "y", (("g", 0),)), None)

    def test_above_2000(self):
        web = read_web(("given g", "row x of y: begin; way 0 give", "row y of g: begin; way 0 give give; way 0 give"))
        for count, courses in ((1999, False), (2000, True), (GREAT, True)):
            told = surely(web, "x", (("g", count),))
            self.assertEqual([told.count, told.chain], [count, (("x", count + 1), ("y", count + 1), ("g", count + 1))])
            self.assertIs(told.courses is None, courses)
        # a piece of a given may be as great as it likes
        web = read_web(("given g", "row x of g: begin; way" + " 0" * 599 + " give"))
        told = surely(web, "x", (("g", 599 * 1999),))
        self.assertEqual(told.chain, (("x", 2000), ("g", 599 * 1999 + 1)))
        self.assertEqual(run(web, told.courses, (("g", 599 * 1999),)), (("x", 1999),))

    def test_any(self):
        chance = random.Random(241)
        many = 0
        for _ in range(120):
            web = some_web(chance, False)
            counts = some_counts(chance, web)
            told = [surely(web, row, counts) for row in web]
            if within_cap([one.count for one in told]):
                slow = slow_numbers(web, most_needs(web), counts)
                self.assertEqual({one.row: one.count for one in told}, slow, (web.rows, counts))
                many += 1
            for _ in range(3):
                numbers = dict(run(web, some_courses(chance, web), counts))
                for one in told:
                    self.assertTrue(numbers[one.row] is None or one.count is not None and one.count <= numbers[one.row])
        self.assertGreater(many, 90)

    def test_courses(self):
        chance = random.Random(242)
        many = 0
        for _ in range(150):
            web = some_web(chance, False)
            counts = some_counts(chance, web)
            for row in web:
                told = surely(web, row, counts)
                if told.courses is not None and max(len(first) for _, (first, _) in told.courses) <= 200:
                    self.assertEqual([name for name, _ in told.courses], list(web))
                    self.assertEqual(dict(run(web, told.courses, counts))[row], told.count)
                    many += 1
                else:
                    self.assertTrue(told.holds or max(piece for _, piece in told.chain) > 60)
        self.assertGreater(many, 200)

    def test_long_courses(self):
        # up to some 2,000 rounds of the first way stand ahead of one of the second one
        web = read_web(("given g", "row x of g: begin; way 0 give; way 0 0 give give"))
        for count in (60, 777, 1998):
            told = surely(web, "x", (("g", count),))
            self.assertEqual(told.count, count - 1)
            course = dict(told.courses)["x"]
            self.assertEqual(slow_need(web["x"][0], 0, course, count)[-1], count + 1)


class Chains(unittest.TestCase):
    def test_told_and_changed(self):
        chance = random.Random(243)
        right = wrong = 0
        for _ in range(100):
            web = some_web(chance, False)
            counts = some_counts(chance, web)
            for row in list(web)[:2]:
                told = surely(web, row, counts)
                if told.holds:
                    continue
                self.assertEqual(told.chain[0], (row, told.count + 1))
                self.assertTrue(all(pair.__class__ is tuple for pair in told.chain + (told.chain,)))
                self.assertIs(judge_chain(web, row, counts, told.chain), True)
                self.assertIs(judge_chain(web, row, counts, [list(pair) for pair in told.chain]), True)
                for chain in changed(chance, web, told.chain):
                    wanted = slow_judge(web, row, counts, chain) if all(name in web for name, _ in chain) else False
                    self.assertIs(judge_chain(web, row, counts, chain), wanted, (web.rows, counts, chain))
                    right, wrong = right + wanted, wrong + (not wanted)
                    if wanted:
                        self.assertGreater(chain[0][1], told.count)
        self.assertGreater(right, 200)
        self.assertGreater(wrong, 3000)

    def test_ends(self):
        web = read_web(("given g", "given h", "row x of g x y: begin give; way 0 1 2 give",
                        "row y of x h y: begin give give; way 0 1 2 give; way 0 0", "row z of y: begin; way 0 give"))
        counts = (("g", 2),)
        for chain, wanted in (
                ((("x", 4), ("g", 3)), True), ((("x", 9), ("g", 3)), True), ((("x", 3), ("g", 3)), False),
                ((("x", 4), ("g", 2)), False), ((("y", 3),), True), ((("y", 2),), False), ((("x", 4), ("y", 3)), True),
                # behind a pair at which it could have ended
                ((("y", 3), ("x", 7), ("g", 6)), True), ((("y", 3), ("x", GREAT), ("g", 3)), True),
                ((("y", 3), ("x", 3), ("g", 3)), False), ((("z", 3), ("y", 3), ("x", 9), ("y", 3)), True),
                ((("y", 3), ("y", 3)), True), ((("y", 3), ("y", 4)), False), ((("y", 3), ("y", 2)), False),
                ((("y", 3), ("x", 5), ("y", 3)), True), ((("y", 3), ("x", 5), ("x", 4)), False),
                ((("y", 3), ("x", 5), ("x", 5)), False), ((("y", 3), ("x", 3), ("y", 3)), False),
                # an endless given ends none, and no given stands ahead of the last pair
                ((("y", 3), ("h", 9)), False), ((("x", 4), ("g", 3), ("g", 3)), False), ((("g", 3),), False),
                ((("x", 4), ("g", 3), ("x", 4)), False), ((("x", 2), ("x", 1)), False), ((("x", 1),), False),
                ((("z", 4), ("y", 4)), True), ((("z", 4), ("y", 3)), True), ((("z", 4), ("y", 5)), False)):
            self.assertIs(judge_chain(web, chain[0][0] if chain[0][0] != "g" else "x", counts, chain), wanted, chain)
            self.assertFalse(judge_chain(web, "z" if chain[0][0] == "x" else "x", counts, chain))

    def test_rings(self):
        web = read_web(("row x of y: begin give; way 0 give", "row y of z x: begin; way 0 1 1 give",
                        "row z of x z: begin give; way 0 1 give"))
        told = surely(web, "x")
        self.assertEqual([told.count, judge_chain(web, "x", (), told.chain)], [1, True])
        self.assertTrue(judge_chain(web, "x", (), (("x", 2), ("y", 1), ("x", 2))))
        self.assertTrue(judge_chain(chain=[["y", 1], ["x", 2], ["y", 1]], counts=[], row="y", web=web))
        for chain in ((("x", 2), ("y", 1), ("x", 1)), (("x", 2), ("y", 2), ("x", 2)), (("x", 2), ("y", 1), ("z", 1)),
                      (("x", 2), ("y", 1)), (("y", 1), ("x", 2)), (("x", 3), ("y", 1), ("x", 3))):
            self.assertIs(judge_chain(web, "x", (), chain), False, chain)

    def test_other_things(self):
        web = read_web(LINES)
        counts = (("g", 3),)
        self.assertTrue(judge_chain(web, "x", counts, (("x", 5), ("g", 4))))
        for chain in (None, 0, "x5", "", (), [], {}, {"x": 5}, (("x", 5), ("g", 4), None), (("x", 5), ("g", 4, 4)), (("x",),),
                      (("x", 5), "g4"), (("x", 5), ("g",)), (("x", "5"), ("g", 4)), (("x", 5), ("g", None)), ("x", 5),
                      ((["x"], 5), ("g", 4)), (("x", 5), (None, 4)), (("x", 5), ("g", (4,))), ((("x", 5), ("g", 4)),),
                      (("x", 5), ({}, 4)), web, Table(()), (Table(()), ("g", 4)), ((Table(()), 5), ("g", 4))):
            self.assertIs(judge_chain(web, "x", counts, chain), False, chain)
        web = read_web(("row x of x: begin; way 0 give",))
        self.assertTrue(judge_chain(web, "x", (), (("x", 1), ("x", 1))))
        for chain in ((("x", True), ("x", 1)), (("x", 1), ("x", True)), (("x", True), ("x", True)), (("x", False),)):
            self.assertIs(judge_chain(web, "x", (), chain), False)


class Needs(unittest.TestCase):
    def test_example(self):
        web = read_web(("given g", "row x of g x: begin give; way 0 1 give"))
        self.assertEqual(write_table(need(web, "x", "g")), "then 0 up 1")
        self.assertEqual(need(given="g", row="x", web=web), Table.shift(-1))

    def test_by_hand(self):
        lines = ("given g", "given h", "row x of g y: begin; way 0 0 1 give", "row y of g: begin give; way 0 0 0 give",
                 "row z of z h: begin give; way 0 1 give; way 0 0 1 give", "row w of w: begin give give; way 0 0 give",
                 "row v of v: begin give; way 0 give", "row u of y: begin 0; way 0; way 0 give")
        wanted = (("x", "g", "2 4 then 6 up 3"), ("y", "g", "then 0 up 3"), ("x", "h", "then 0 up 0"), ("z", "g", "0 never"),
                  ("z", "h", "0 never"), ("w", "g", "0 0 0 never"), ("v", "h", "then 0 up 0"), ("u", "g", "never"))
        for row, given, text in wanted:
            self.assertEqual(need(read_web(lines), row, given), read_table(text), (row, given))

    def test_any(self):
        chance = random.Random(251)
        many = 0
        for _ in range(80):
            web = some_web(chance, False)
            for row in list(web)[:2]:
                most = surely(web, row).count
                for given in web.givens:
                    table = need(web, row, given)
                    for n in range(1, 12):
                        value = table(n)
                        self.assertIs(value is None, most is not None and most < n)
                        if value is not None:
                            self.assertTrue(self.comes(web, row, ((given, value),), n))
                            self.assertFalse(value > 0 and self.comes(web, row, ((given, value - 1),), n))
                            many += 1
        self.assertGreater(many, 200)

    def comes(self, web, row, counts, n):
        count = surely(web, row, counts).count
        return count is None or count >= n

    def test_several_givens(self):
        chance = random.Random(252)
        for _ in range(60):
            web = some_web(chance, False)
            counts = some_counts(chance, web, 1)
            for row in list(web)[:2]:
                tables = [(need(web, row, given), count) for given, count in counts]
                for n in range(1, 12):
                    comes = self.comes(web, row, (), n)
                    for table, count in tables:
                        comes = comes and table(n) is not None and table(n) <= count
                    self.assertIs(self.comes(web, row, counts, n), comes)

    def test_unreached_given(self):
        web = read_web(("given g", "row x of x: begin give give; way 0 0 give"))
        self.assertEqual([surely(web, "x").count, need(web, "x", "g")], [3, Table((0, 0, 0))])


class Wrong(unittest.TestCase):
    def setUp(self):
        self.web = read_web(LINES)
        self.open = Web(("g",), (("x", Maker(1, (), (("give",),)), ("g",)), ("y", "b", ("x",)), ("z", "a", ("x",))))

    def test_open(self):
        for call, args in ((surely, (None, None)), (judge_chain, (None, None, None)), (need, (None, None)), (surely, ("x",)),
                           (judge_chain, ("x", (), (("x", 1),))), (need, ("x", "g"))):
            self.assertEqual(raised(Open, call, self.open, *args), {"name": "b"})

    def test_rows(self):
        for thing in ("g", "q", None, 0, True, ["x"], ("x",), "", Table(())):
            self.assertIs(raised(Lacking, surely, self.web, thing, None)["thing"], thing)
            self.assertIs(raised(Lacking, judge_chain, self.web, thing, None, None)["thing"], thing)
            self.assertIs(raised(Lacking, need, self.web, thing, None)["thing"], thing)

    def test_givens(self):
        for thing in ("x", "q", None, 0, True, ["g"], ("g",), "", Table(())):
            self.assertIs(raised(Lacking, need, self.web, "x", thing)["thing"], thing)

    def test_counts(self):
        for counts, number in ((None, -1), ("g", -1), ({"g": 1}, -1), ((None,), 0), ((("g", 1), ("g", 1)), 1),
                               ((("g", True),), 0), ((("g", None),), 0), ([["g", 2], ["x", 1]], 1), ((("g", -1),), 0)):
            self.assertEqual(raised(BadCounts, surely, self.web, "x", counts), {"number": number})
            self.assertEqual(raised(BadCounts, judge_chain, self.web, "x", counts, None), {"number": number})

    def test_arguments_stay(self):
        counts, chain = [["g", 3]], [["x", 5], ["g", 4]]
        surely(self.web, "x", counts)
        judge_chain(self.web, "x", counts, chain)
        self.assertEqual([counts, chain], [[["g", 3]], [["x", 5], ["g", 4]]])


if __name__ == "__main__":
    unittest.main()
