"""[12] and [13]: sheets, told by hand, and the errors of what is asked about."""

import unittest

from helpers import raised
from needforth.errors import AtOdds, BadCount, BadFact, BadSaying, BadTerm, TooMany
from needforth.everywhere import enough, everywhere
from needforth.sheets import Sheet
from needforth.termtext import read_saying, read_term
from needforth.trees import judge_tree

START = ((0, 1, -1),)


def sheet_of(text, facts=(), cap=None):
    return Sheet(read_saying(text), tuple(read_saying(fact) for fact in facts), cap)


def started(point, answer):
    return ((0, point, -1), (answer, 0, 0))


def steps(point):
    """The bounds of two new points, this one and the next one."""
    return ((0, point, 0), (0, point + 1, 0), (point + 1, point, 1), (point, point + 1, -1))


def climbing(one, other):
    """The clauses of two samples of one name."""
    (a, b), (d, e) = one, other
    return (((d, a, -1), (b, e, 0)), ((a, d, -1), (e, b, 0)))


def linked(one, other):
    (a, b), (d, e) = one, other
    return (((d, a, -1), (b, e, 0)),)


class Sheets(unittest.TestCase):
    def check(self, sheet, points, bounds, clauses, samples):
        self.assertEqual(sheet.points, points)
        self.assertEqual(sheet.bounds, bounds)
        self.assertEqual(sheet.clauses, clauses)
        self.assertEqual(sheet.samples, samples)
        for kept in (sheet.bounds, sheet.clauses, sheet.samples):
            self.assertIs(kept.__class__, tuple)
            self.assertTrue(all(one.__class__ is tuple for one in kept))

    def test_example(self):
        self.check(Sheet(("f", ("shift", 0))), 3, ((0, 1, -1), (0, 2, 0), (1, 2, -1)),
                   (((0, 1, -1), (2, 0, 0)),), (("f", ((1, 2),)),))

    def test_cap(self):
        for cap in (0, 1, 10 ** 60 - 1):
            self.check(sheet_of("+0 <= +0", (), cap), 2, ((0, 1, -1), (1, 0, cap), (1, 1, -1)), (), ())
        self.check(sheet_of("+0 <= +0"), 2, ((0, 1, -1), (1, 1, -1)), (), ())

    def test_same_term_again(self):
        self.check(sheet_of("f <= f"), 3, START + ((0, 2, 0), (2, 2, -1)), (started(1, 2),), (("f", ((1, 2),)),))
        one = Sheet((("both", "f", ["turn", ("shift", 1)]), ["both", "f", ("turn", ["shift", 1])]))
        self.assertEqual([one.points, one.bounds[-1]], [8, (7, 7, -1)])

    def test_shifts(self):
        self.check(sheet_of("+3 <= -2"), 4, START + ((0, 2, 0), (2, 1, 3), (0, 3, 0), (1, 3, 2), (3, 2, -1)),
                   (started(1, 2), ((1, 0, 0), (1, 2, -3)), ((3, 1, -2), (3, 0, 0))), ())

    def test_behind(self):
        self.check(sheet_of("f * g <= g * f"), 6,
                   START + ((0, 2, 0), (0, 3, 0), (0, 4, 0), (0, 5, 0), (5, 3, -1)),
                   (started(1, 2), started(2, 3), started(1, 4), started(4, 5))
                   + climbing((1, 2), (4, 5)) + climbing((2, 3), (1, 4)),
                   (("g", ((1, 2), (4, 5))), ("f", ((2, 3), (1, 4)))))

    def test_both_and_either(self):
        self.check(sheet_of("f & g <= g | f"), 6,
                   START + ((0, 2, 0), (0, 3, 0), (0, 4, 0), (2, 4, 0), (3, 4, 0), (0, 5, 0), (5, 3, 0), (5, 2, 0),
                            (5, 4, -1)),
                   (started(1, 2), started(1, 3), ((4, 2, 0), (4, 3, 0)), ((3, 5, 0), (2, 5, 0))),
                   (("f", ((1, 2),)), ("g", ((1, 3),))))

    def test_turn(self):
        self.check(sheet_of("~f <= +0"), 6,
                   START + steps(2) + ((0, 4, 0), (0, 5, 0), (1, 5, 0), (1, 2, -1)),
                   (started(2, 4), started(3, 5), started(1, 2), ((1, 0, 0), (4, 1, -1))) + climbing((2, 4), (3, 5)),
                   (("f", ((2, 4), (3, 5))),))

    def test_under(self):
        self.check(sheet_of("f under g <= +0"), 7,
                   START + ((0, 2, 0),) + steps(3) + ((0, 5, 0), (0, 6, 0), (5, 2, 0), (1, 3, -1)),
                   (started(1, 2), started(3, 5), started(4, 6), started(1, 3), ((1, 0, 0), (2, 6, -1)))
                   + climbing((3, 5), (4, 6)),
                   (("g", ((1, 2),)), ("f", ((3, 5), (4, 6)))))

    def test_over(self):
        self.check(sheet_of("f over g <= +0"), 8,
                   START + steps(2) + ((0, 4, 0), (0, 5, 0), (0, 6, 0), (0, 7, 0), (7, 6, 0), (1, 7, -1)),
                   (started(2, 4), started(3, 5), started(3, 6), started(1, 7), ((1, 0, 0), (6, 7, 0)),
                    ((1, 0, 0), (4, 1, -1)), ((1, 0, 0), (1, 5, 0))) + climbing((2, 4), (3, 5)),
                   (("g", ((2, 4), (3, 5))), ("f", ((3, 6),))))

    def test_all_pairs_of_samples(self):
        sheet = sheet_of("f * f * f <= +0")
        samples = ((1, 2), (2, 3), (3, 4))
        self.assertEqual(sheet.samples, (("f", samples),))
        self.assertEqual(sheet.clauses[3:], climbing(samples[0], samples[1]) + climbing(samples[0], samples[2])
                         + climbing(samples[1], samples[2]))

    def test_floors_and_ceilings(self):
        plain = sheet_of("f * f <= g")
        known = (((1, 2), (2, 3)), ((1, 4),))
        self.assertEqual(plain.samples, (("f", known[0]), ("g", known[1])))
        full = sheet_of("f * f <= g", ("f <= +2", "-3 <= g", "-1 <= f", "g <= -1", "f <= +4"))
        self.assertEqual(full.bounds, plain.bounds + ((2, 1, 2), (3, 2, 2)))
        self.assertEqual(full.clauses, plain.clauses + (
            ((1, 0, 0), (1, 2, 1)), ((2, 0, 0), (2, 3, 1)), ((4, 1, -1), (4, 0, 0)), ((1, 0, 0), (1, 4, 3))))
        self.assertEqual([full.points, full.samples], [plain.points, plain.samples])
        self.assertEqual(sheet_of("f <= +0", ("f <= +0",)).bounds, sheet_of("f <= +0").bounds + ((2, 1, 0),))

    def test_links_through_names_that_are_not_walked(self):
        plain = sheet_of("f <= g")
        self.assertEqual(sheet_of("f <= g", ("a <= g", "f <= b")).clauses, plain.clauses)
        full = sheet_of("f <= g", ("f <= a", "a <= b", "b <= g", "a <= -2", "+1 <= h"))
        self.assertEqual(full.clauses, plain.clauses + (((2, 1, -2), (2, 0, 0)),) + linked((1, 2), (1, 3)))
        full = sheet_of("f <= g", ("f <= a", "a <= b", "b <= g", "+1 <= b"))
        self.assertEqual(full.clauses, plain.clauses + (((1, 0, 0), (1, 3, -1)),) + linked((1, 2), (1, 3)))

    def test_links_in_a_ring(self):
        plain = sheet_of("f * h <= g * f")
        names = {"h": [(1, 2)], "f": [(2, 3), (1, 4)], "g": [(4, 5)]}
        self.assertEqual(plain.samples, tuple((name, tuple(told)) for name, told in names.items()))
        full = sheet_of("f * h <= g * f", ("f <= g", "g <= h", "h <= f"))
        wanted = ()
        for name in names:
            for other in names:
                for one in names[name] if name != other else ():
                    for two in names[other]:
                        wanted += linked(one, two)
        self.assertEqual(full.clauses, plain.clauses + wanted)
        self.assertEqual(len(wanted), 10)

    def test_lists_and_names_of_arguments(self):
        listed = Sheet([["turn", ["behind", "f", ["shift", -1]]], "g"], [["f", "g"], [["shift", -2], "g"]], 7)
        told = Sheet(cap=7, facts=(("f", "g"), (("shift", -2), "g")),
                     saying=(("turn", ("behind", "f", ("shift", -1))), "g"))
        self.check(listed, told.points, told.bounds, told.clauses, told.samples)

    def test_twelve_samples(self):
        self.assertEqual(len(sheet_of("f * f * f * f * f * f <= g * g * g * g * g * g").clauses), 12 + 2 * 30)
        self.assertEqual(sheet_of("~~~f <= f * f * f * f").samples[0][1].__len__(), 12)


class Errors(unittest.TestCase):
    def calls(self, saying, facts):
        return ((Sheet, (saying, facts, True)), (everywhere, (saying, facts)), (enough, (saying, facts)),
                (judge_tree, (saying, facts, None, -1)))

    def wrong(self, wanted, thing, saying, facts=None):
        for call, args in self.calls(saying, facts):
            found = raised(wanted, call, *args)
            self.assertEqual(list(found.values()), [thing])
            self.assertTrue(list(found.values())[0] is thing or isinstance(thing, (str, int)))

    def test_sayings(self):
        for thing in (None, "fg", 3, True, (), ("f",), ("f", "g", "h"), {"f": "g"}, [1]):
            self.wrong(BadSaying, thing, thing)
        for thing in ("F", None, ["turn"], ("shift", True), ("both", "f", ("turn", 1))):
            self.wrong(BadTerm, thing, (thing, None))
            self.wrong(BadTerm, thing, ["f", thing])
            self.wrong(BadTerm, thing, [read_term("~" * 59 + "f"), thing])

    def test_parts_and_samples(self):
        big = read_term("~" * 59 + "f")
        self.wrong(TooMany, "part", (("turn", big), "f"))
        self.wrong(TooMany, "part", ("f", ("turn", big)))
        self.wrong(TooMany, "sample", (big, big))
        for text in ("f * f * f * f * f * f * f <= g * g * g * g * g * g", "~~~f <= ~~f & ~+0",
                     "f under (f under f) <= ~(f over f) & +2 & +0"):
            saying = read_saying(text)
            self.wrong(TooMany, "sample", saying)
        self.wrong(BadFact, -1, read_saying("f * f * f * f * f * f <= g * g * g * g * g * g"))
        self.wrong(BadFact, -1, read_saying("~~~f <= ~~f"))

    def test_facts_and_odds(self):
        odd = (("f", ("shift", 0)), (("shift", 1), "f"))
        self.wrong(BadFact, 2, ("f", "g"), odd + ((),))
        self.wrong(TooMany, "fact", ("f", "g"), odd * 4)
        self.wrong(AtOdds, "f", ("f", "g"), odd)

    def test_caps(self):
        for cap in (-1, True, False, "1", (1,)):
            self.assertIs(raised(BadCount, Sheet, ("f", "g"), (), cap)["thing"], cap)
            self.assertIs(raised(BadCount, judge_tree, ("f", "g"), (), None, cap)["thing"], cap)


if __name__ == "__main__":
    unittest.main()
