"""[11], [12] and [15]: what holds for all steady makers, where it fails first, and which facts are enough."""

import itertools
import random
import time
import unittest

from asking import check_verdict, some_facts, some_saying
from helpers import raised
from needforth.comparing import below
from needforth.errors import AtOdds, BadFact, BadSaying, TooMany
from needforth.everywhere import Everywhere, enough, everywhere
from needforth.facts import keep
from needforth.tables import Table
from needforth.terms import value_of
from needforth.termtext import read_saying
from needforth.verdicts import Verdict

HOLDING = (
    "f <= f", "f * (f under g) <= g", "(g over f) * f <= g", "~~f <= f", "f <= ~~f", "~g * ~f <= ~(f * g)",
    "f * ~f <= +0", "~f * f <= -1", "~+3 <= -4", "-4 <= ~+3", "f * g & f * h <= f * (g & h)",
    "f * (g & h) <= f * g & f * h", "f * (g | h) <= f * g | f * h", "f * g | f * h <= f * (g | h)",
    "(f | g) * h <= f * h | g * h", "~f & ~g <= ~(f | g)", "~(f & g) <= ~f | ~g", "(f under g) * h <= f under g * h",
    "f * (g over h) <= f * g over h", "f * g over h <= f * (g over h)", "(f | g) under h <= (f under h) & (g under h)",
    "h over (f & g) <= (h over f) | (h over g)", "f * f * f * f * f <= f * f * f * f * f * f & +0",
    "(f | g) * (f | g) * (f | g) <= f * f * f | g * g * g", "f * g * h <= (f & g & h) * (f & g & h) * (f & g & h)",
    "f under g <= ~(~g * f)", "~(~g * f) <= f under g", "f over g <= ~(g * ~f)", "~(g * ~f) <= f over g",
    "~~~f <= ~f & -9", "-9 <= -9 & f", "-5 <= -4", "+2 * -2 <= +0", "f <= f * f & -1",
)
FAILING = (
    ("f <= g", 1), ("f * g <= g * f", 1), ("f <= +9", 1), ("+9 <= f", 1), ("-9 <= f", 10), ("-1 <= f", 2),
    ("f * -1 <= -1", 2), ("+0 <= +2 * -2", 1), ("-3 <= -4", 4), ("+0 <= -1", 1), ("f * f * -9 <= -9 * f * f", 10),
    ("~f * f <= f * ~f", 2), ("f * ~f <= f * f", 2), ("f * -1 * f * -1 * f * -1 <= f * f * f * -3", 2),
    ("f * f * f * -3 <= f * -1 * f * -1 * f * -1", 4), ("-9 * -9 * -9 * -9 * -9 <= f", 46),
    ("f * f * f * f * f * f * f * f * f * f * f <= -1", 1), ("~(f * g) <= ~g * ~f", 1),
    ("f <= f * f | -1", 1), ("f & f * f <= f * f | f & f * f", 2),
)


def read(*texts):
    return tuple(read_saying(text) for text in texts)


def some_tables(reach, most):
    """All steady tables of this many values, at most so great, that then climb by one at each place."""
    return [Table(values[:-1], values[-1:], 1)
            for values in itertools.combinations_with_replacement(range(most + 1), reach)]


class Deciding(unittest.TestCase):
    def test_kind(self):
        self.assertTrue(issubclass(Everywhere, Verdict))
        told = everywhere(facts=(), saying=("f", ("shift", 0)))
        self.assertEqual([told.holds, bool(told), told.place, told.tree],
                         [False, False, 1, (("ring", ((1, 0, 0), (0, 1, -1))),)])
        self.assertIs(everywhere(["f", ["shift", 0]], [["f", ["shift", -2]]]).holds, True)

    def test_examples(self):
        saying, fact = read("f * -1 <= -1", "f <= +0")
        self.assertEqual([everywhere(saying).place, everywhere(saying, (fact,)).holds, enough(saying, (fact,))],
                         [2, True, ((0,),)])

    def test_sayings_that_hold(self):
        for text in HOLDING:
            self.assertTrue(check_verdict(self, read_saying(text), ()).holds, text)

    def test_sayings_that_fail(self):
        for text, place in FAILING:
            self.assertEqual(check_verdict(self, read_saying(text), ()).place, place, text)

    def test_facts(self):
        wanted = (
            ("f <= g", ("f <= g",), None), ("f <= g", ("f <= h", "h <= g"), None), ("f <= g", ("g <= f",), 1),
            ("f * -1 <= -1", ("f <= +1",), 2), ("f <= g", ("f <= +2", "+2 <= g"), None),
            ("f <= g", ("f <= +3", "+2 <= g"), 1), ("f <= g", ("f <= -5", "-6 <= g"), 6),
            ("f <= g", ("f <= -5", "-7 <= g"), 6), ("f <= g", ("f <= -5",), 6), ("f <= g", ("f <= -9", "a <= b"), 10),
            ("f * f <= g", ("f <= -3",), 7), ("f * f <= -6", ("f <= -3",), None), ("f * g <= g * f", ("f <= g",), 1),
            ("f * g <= g * f", ("f <= +3", "+3 <= f"), 1), ("f * f * f <= g * g * g", ("f <= h", "h <= g"), None),
            ("f <= g", ("f <= h", "h <= k", "k <= f", "k <= g"), None), ("f <= g", ("g <= f", "h <= f"), 1),
            ("f & g <= h", ("f <= a", "a <= h", "g <= -1", "+0 <= h"), None), ("~f <= ~g", ("g <= f",), None),
            ("~f <= ~g", ("f <= g",), 1), ("f under h <= g under h", ("g <= f",), None),
            ("h over g <= h over f", ("f <= g",), None), ("f * -9 <= g", ("f <= +0", "+0 <= k"), 10),
        )
        for text, facts, place in wanted:
            self.assertEqual(check_verdict(self, read_saying(text), read(*facts)).place, place, (text, facts))

    def test_names_of_facts_alone(self):
        told = check_verdict(self, read_saying("f <= +0"), read("+3 <= c", "b <= -9", "a <= b", "c <= d"))
        self.assertEqual([name for name, _ in told.tables], ["a", "b", "c", "d", "f"])
        told = check_verdict(self, read_saying("+1 <= +0"), ())
        self.assertEqual([told.place, told.tables], [1, ()])
        self.assertEqual([name for name, _ in check_verdict(self, read_saying("+1 <= +0"), read("b <= a")).tables],
                         ["a", "b"])

    def test_any(self):
        chance = random.Random(121)
        places = {}
        for _ in range(700):
            names = ["f", "g", "h"][:chance.randint(1, 3)]
            shift = chance.choice([1, 3, 9])
            saying = some_saying(chance, chance.randint(2, 12), names, shift)
            facts = some_facts(chance, chance.randint(0, 6), names + ["x"], shift)
            try:
                place = check_verdict(self, saying, facts).place
            except AtOdds:
                continue
            places[place] = places.get(place, 0) + 1
        self.assertGreater(places[None], 60)
        self.assertGreater(len(places), 8)

    def test_all_small_tables(self):
        chance = random.Random(122)
        tables = some_tables(3, 4)
        reached = 0
        for _ in range(150):
            saying = some_saying(chance, chance.randint(2, 5), ["f"], 2)
            facts = some_facts(chance, chance.randint(0, 2), ["f"], 2)
            fitting = [(("f", table),) for table in tables if keep((("f", table),), facts)]
            try:
                told = everywhere(saying, facts)
            except AtOdds:
                self.assertEqual(fitting, [], facts)
                continue
            places = [below(value_of(saying[0], pairs), value_of(saying[1], pairs)).place for pairs in fitting]
            places = [place for place in places if place is not None]
            self.assertTrue(not places or not told.holds and told.place <= min(places), (saying, facts))
            reached += 1 if places and told.place == min(places) else 0
        self.assertGreater(reached, 50)

    def test_two_names_of_small_tables(self):
        chance = random.Random(123)
        tables = some_tables(3, 4)
        for _ in range(60):
            saying = some_saying(chance, chance.randint(2, 7), ["f", "g"], 2)
            facts = some_facts(chance, chance.randint(0, 3), ["f", "g"], 2)
            pairs = [(("f", chance.choice(tables)), ("g", chance.choice(tables))) for _ in range(80)]
            try:
                told = everywhere(saying, facts)
            except AtOdds:
                self.assertFalse(any(keep(pair, facts) for pair in pairs))
                continue
            for pair in pairs:
                if keep(pair, facts):
                    found = below(value_of(saying[0], pair), value_of(saying[1], pair))
                    self.assertTrue(found.holds or not told.holds and told.place <= found.place, (saying, facts, pair))

    def test_trees_and_searches_stay_small(self):
        texts = ("f <= (f | +5) * (f | (f | (f | (f | (f | f | f | f)))) | f)",
                 "(f & f & (f & f)) * ((-4 & (f & f)) * (f & (f & -5))) * -5 <= +6",
                 "(f | g) * (f | g) * (f | g) <= f * g * f | g * f * g", "~~~f <= f * f * f * f",
                 "f * (f & f) <= (f | (f | +1)) * (f | (f | f)) * (f | f | f)", "~~f * ~~f <= ~f & ~f",
                 "(f & f) * (+1 * +2) <= f & f | (f | f)", "f * f * f * f * f * f <= g * g * g * g * g * g")
        start = time.process_time()
        for text in texts:
            self.assertLess(len(check_verdict(self, read_saying(text), ()).tree), 4000, text)
            check_verdict(self, read_saying(text), read("f <= +1", "-2 <= f", "g <= h", "h <= f"))
        self.assertLess(time.process_time() - start, 20)


class Enough(unittest.TestCase):
    def test_edges(self):
        self.assertEqual(enough(("f", "f"), ()), ((),))
        self.assertEqual(enough(("f", "f"), read("f <= g", "g <= f")), ((),))
        self.assertEqual(enough(("f", "g"), ()), ())
        self.assertEqual(enough(("f", "g"), read("g <= f", "f <= +1", "+0 <= g")), ())
        self.assertEqual(enough(facts=[["f", "g"]], saying=["f", "g"]), ((0,),))

    def test_unlike_numbers(self):
        wanted = (
            ("f <= g", ("f <= h", "f <= g", "h <= g"), ((0, 2), (1,))),
            ("f <= g", ("f <= h", "h <= k", "k <= g", "f <= +1", "+2 <= g", "h <= g"), ((0, 1, 2), (0, 5), (3, 4))),
            ("f <= +5", ("f <= +5", "f <= +5", "f <= +6"), ((0,), (1,))),
            ("f * g <= +4", ("f <= +2", "g <= +2", "f <= +1", "g <= +3", "g <= f"), ((0, 1), (0, 4), (2, 3), (1, 2), (2, 4))),
            ("f * f <= g * g", ("f <= g", "f <= +0", "+0 <= g", "f <= -1", "-1 <= g"),
             ((0,), (1, 2), (2, 3), (3, 4))),
        )
        for text, facts, lots in wanted:
            self.assertEqual(enough(read_saying(text), read(*facts)), tuple(sorted(lots)), text)

    def test_all_lots(self):
        chance = random.Random(151)
        unlike = 0
        for _ in range(150):
            names = ["f", "g"]
            saying = some_saying(chance, chance.randint(2, 6), names, 2)
            facts = some_facts(chance, chance.randint(0, 5), names + ["h"], 2)
            if chance.random() < 0.5:
                saying = ("f", chance.choice(["g", ("shift", 1)]))
                facts = facts[:3] + tuple((chance.choice("fh"), chance.choice("gh")) for _ in range(3))
            try:
                everywhere(saying, facts)
            except AtOdds:
                self.assertIsNotNone(raised(AtOdds, enough, saying, facts))
                continue
            holding = [lot for many in range(len(facts) + 1) for lot in itertools.combinations(range(len(facts)), many)
                       if everywhere(saying, tuple(facts[k] for k in lot)).holds]
            least = [lot for lot in holding if not any(set(other) < set(lot) for other in holding)]
            self.assertEqual(enough(saying, facts), tuple(sorted(least)), (saying, facts))
            unlike += len({len(lot) for lot in least}) > 1
        self.assertGreater(unlike, 1)

    def test_twelve_samples_and_six_facts(self):
        saying = read_saying("f * f * f * f * f * f <= g * g * g * g * g * g")
        self.assertEqual(enough(saying, read("f <= h", "h <= g", "f <= +0", "+0 <= g", "f <= g", "h <= f")),
                         ((0, 1), (2, 3), (4,)))


class Untouched(unittest.TestCase):
    def test_arguments(self):
        saying = [["behind", "f", ["shift", -1]], ["shift", -1]]
        facts = [["f", ["shift", 0]], ["f", "g"]]
        everywhere(saying, facts)
        enough(saying, facts)
        self.assertEqual(saying, [["behind", "f", ["shift", -1]], ["shift", -1]])
        self.assertEqual(facts, [["f", ["shift", 0]], ["f", "g"]])

    def test_errors(self):
        for call in (everywhere, enough):
            self.assertEqual(raised(BadSaying, call, None, None), {"thing": None})
            self.assertEqual(raised(TooMany, call, read_saying("~~~f <= ~~f & ~+0"), None), {"word": "sample"})
            self.assertEqual(raised(BadFact, call, ("f", "f"), "fg"), {"number": -1})
            self.assertEqual(raised(TooMany, call, ("f", "f"), read("+1 <= f", "f <= +0") * 4), {"word": "fact"})
            self.assertEqual(raised(AtOdds, call, ("f", "f"), read("+1 <= h", "h <= +0")), {"thing": "h"})


if __name__ == "__main__":
    unittest.main()
