"""[9], [11] and [15]: facts, what they link, facts at odds, and `keep`."""

import itertools
import unittest

from helpers import raised
from needforth.errors import AtOdds, BadFact, BadTables, Missing, TooMany
from needforth.everywhere import enough, everywhere
from needforth.facts import keep
from needforth.sheets import Sheet
from needforth.tables import Table
from needforth.termtext import read_saying
from needforth.trees import judge_tree

NO_FACTS = (
    None, "fg", 3, True, (), ("f",), ("f", "g", "h"), (("shift", 0), ("shift", 1)), ("f", "F"), ("F", "f"), ("f", 1),
    (1, "f"), ("f", ("shift", 10)), (("shift", True), "f"), ("f", ("turn", "f")), (("behind", "f", "g"), "f"),
    ("f", ("shift",)), ("f", ("shift", 1, 2)), (("both", "f", 1), "f"), {"f": "g"}, ("f", None), ("", "f"),
)


def facts_of(*texts):
    return tuple(read_saying(text) for text in texts)


class Facts(unittest.TestCase):
    def calls(self, facts):
        saying = ("f", "g")
        return ((Sheet, (saying, facts)), (everywhere, (saying, facts)), (enough, (saying, facts)),
                (judge_tree, (saying, facts, None)), (keep, ((), facts)))

    def wrong(self, facts, number):
        for call, args in self.calls(facts):
            self.assertEqual(raised(BadFact, call, *args), {"number": number})

    def test_no_tuple(self):
        for facts in (None, "fg", 7, True, {"f": "g"}, Table(())):
            self.wrong(facts, -1)

    def test_no_facts(self):
        for thing in NO_FACTS:
            self.wrong((thing,), 0)
            self.wrong([("f", "g"), ["g", ["shift", 2]], thing, thing], 2)

    def test_the_first_wrong_one_goes_ahead_of_too_many(self):
        self.wrong([("f", "g")] * 6 + [("f",)], 6)
        for call, args in self.calls([("f", "g")] * 7):
            self.assertEqual(raised(TooMany, call, *args), {"word": "fact"})
        self.assertTrue(keep((("f", Table.shift(0)),), (("f", "f"),) * 6))


class Odds(unittest.TestCase):
    def odds(self, name, *texts):
        facts = facts_of(*texts)
        for call, args in ((Sheet, ("f", "f")), (everywhere, ("f", "f")), (enough, ("f", "f"))):
            self.assertEqual(raised(AtOdds, call, args, facts), {"thing": name})
        self.assertEqual(raised(AtOdds, judge_tree, ("f", "f"), [list(fact) for fact in facts], None), {"thing": name})

    def test_of_one_name(self):
        self.odds("a", "+1 <= a", "a <= +0")
        self.odds("a", "a <= -5", "-4 <= a")
        self.odds("b", "f <= +0", "b <= +1", "b <= +3", "-2 <= b", "+2 <= b")

    def test_floor_that_is_the_ceiling(self):
        for k in (-9, -1, 0, 9):
            facts = (("a", ("shift", k)), (("shift", k), "a"))
            self.assertEqual(dict(everywhere(("f", "a"), facts).tables)["a"], Table.shift(k))

    def test_links(self):
        self.odds("a", "a <= b", "b <= c", "c <= +1", "+2 <= a")
        self.odds("c", "c <= +1", "b <= c", "a <= b", "+2 <= a")
        self.odds("b", "b <= c", "c <= b", "c <= +1", "+2 <= b")
        # a is linked to c, so a stands first where its ceiling comes from c
        self.odds("a", "a <= c", "c <= -1", "+0 <= a", "+0 <= c")
        self.assertTrue(everywhere(("f", "f"), facts_of("b <= a", "b <= c", "c <= +1", "+2 <= a")).holds)

    def test_the_first_term_of_a_fact_goes_first(self):
        self.odds("b", "b <= a", "a <= +0", "+1 <= b")
        self.odds("x", "x <= c", "c <= x", "x <= +3", "+4 <= c", "c <= y")

    def test_all_facts_together_and_behind_all_other_errors(self):
        odd = facts_of("+1 <= a", "a <= +0")
        self.assertEqual(raised(BadFact, everywhere, ("f", "f"), odd + (1,)), {"number": 2})
        self.assertEqual(raised(TooMany, everywhere, ("f", "f"), odd * 4), {"word": "fact"})
        self.assertFalse(keep((("a", Table.shift(0)),), odd))


class Keep(unittest.TestCase):
    def test_each_fact(self):
        tables = (("f", Table.shift(1)), ("g", Table((), (2,), 2)), ("x", Table(())))
        self.assertTrue(keep(tables, ()))
        wanted = {"f <= g": True, "g <= f": False, "f <= +1": True, "f <= +0": False, "+1 <= f": True,
                  "+2 <= f": False, "g <= x": True, "x <= g": False, "+9 <= x": True, "x <= +9": False, "f <= f": True}
        for text, held in wanted.items():
            self.assertIs(keep(tables, facts_of(text)), held, text)
        for one, other in itertools.product(wanted, repeat=2):
            self.assertIs(keep(tables, facts_of(one, other)), wanted[one] and wanted[other])

    def test_tables_that_are_not_steady(self):
        self.assertIs(keep([["f", Table((1,), (4,), 0)]], [["f", ["shift", 1]]]), False)
        self.assertIs(keep([["f", Table((1,), (4,), 0)]], [["f", ["shift", 2]]]), True)
        self.assertTrue(keep(facts=(("f", "g"),), tables=(("f", Table((0,), (0,), 0)), ("g", Table((5,))))))

    def test_errors(self):
        told = (("f", Table.shift(0)),)
        self.assertEqual(raised(BadTables, keep, None, None), {"number": -1})
        self.assertEqual(raised(BadTables, keep, told + told, None), {"number": 1})
        self.assertEqual(raised(BadTables, keep, (("f", True),), None), {"number": 0})
        self.assertEqual(raised(BadFact, keep, (), None), {"number": -1})
        self.assertEqual(raised(TooMany, keep, (), facts_of("f <= g") * 7), {"word": "fact"})
        self.assertEqual(raised(Missing, keep, told, facts_of("f <= +1", "+2 <= h", "g <= f")), {"name": "h"})
        self.assertEqual(raised(Missing, keep, told, facts_of("f <= g", "h <= f")), {"name": "g"})


if __name__ == "__main__":
    unittest.main()
