"""[8] and [9]: terms, their names, samples and tables."""

import random
import unittest

from helpers import raised, table_of, some_pairs
from needforth.errors import BadTables, BadTerm, Missing, TooMany
from needforth.residues import over, under
from needforth.tables import Table
from needforth.terms import names_of, samples_of, value_of

PAIRED = ("behind", "both", "either", "under", "over")
NO_TERMS = (
    "", "F", "abcd", "a_", "1a", "a b", "aB", None, 3, True, b"f", (), [], ("f",), ("shift",), ("shift", 10),
    ("shift", -10), ("shift", True), ("shift", "1"), ("shift", None), ("shift", 1, 2), ("shift", ("f",)), ("turn",),
    ("turn", "f", "g"), ("turn", ""), ("turn", ("shift", 10)), ("both", "f"), ("both", "f", "g", "h"),
    ("both", "f", "G"), ("both", 1, "g"), ("f", "g"), ("f", "g", "h"), ("Both", "f", "g"), (["turn"], "f"),
    (("turn",), "f"), (None, "f"), (1, 2), "turn", {"turn": "f"}, ("under", "f", ("over", "g", ("turn", "h", "h"))),
    Table(()), ("turn", Table(())), "a\n", "\u00e9",
)


def towers(many):
    """A term with so many parts, at least 1, that does not lie deep."""
    if many % 2 == 0:
        return ("turn", towers(many - 1))
    if many == 1:
        return "f"
    half = many // 2
    return ("both", towers(half), towers(many - 1 - half))


class Checking(unittest.TestCase):
    def calls(self, thing):
        return ((names_of, (thing,)), (samples_of, (thing,)), (value_of, (thing, None)))

    def test_no_terms(self):
        for thing in NO_TERMS:
            for call, args in self.calls(thing):
                self.assertIs(raised(BadTerm, call, *args)["thing"], thing)

    def test_borne_whole_and_as_passed(self):
        thing = ["both", ["turn", ["shift", 10]], "f"]
        self.assertIs(raised(BadTerm, names_of, thing)["thing"], thing)
        self.assertEqual(thing, ["both", ["turn", ["shift", 10]], "f"])

    def test_parts(self):
        for many in (1, 2, 3, 30, 59, 60):
            self.assertEqual(names_of(towers(many)), ("f",))
        for many in (61, 62, 200):
            for call, args in self.calls(towers(many)):
                self.assertEqual(raised(TooMany, call, *args), {"word": "part"})
            self.assertIs(raised(BadTerm, names_of, ("both", towers(many), "G"))["thing"].__class__, tuple)
            self.assertIs(raised(BadTerm, names_of, ("both", "", towers(many)))["thing"].__class__, tuple)

    def test_deep(self):
        term = "f"
        for _ in range(59):
            term = ("turn", term)
        self.assertEqual([names_of(term), samples_of(term)], [("f",), 2 ** 59])
        self.assertEqual(value_of(term, (("f", Table.shift(0)),)), Table.shift(-1))

    def test_names(self):
        for name in ("f", "z9", "a00", "abc", "x1y", "or", "und", "up"):
            self.assertEqual(names_of(name), (name,))


class Telling(unittest.TestCase):
    def test_names_of(self):
        self.assertEqual(names_of(("shift", 3)), ())
        self.assertEqual(names_of(("both", ("under", "g", "f"), ("turn", ("behind", "h", "g")))), ("g", "f", "h"))
        self.assertEqual(names_of(["over", ["either", "b", "a"], ["turn", "c"]]), ("b", "a", "c"))
        self.assertEqual(names_of(term=("both", ("turn", "b"), ("turn", "a"))), ("b", "a"))

    def test_samples_of(self):
        wanted = (("f", 1), (("shift", -9), 1), (("turn", "f"), 2), (("turn", ("turn", "f")), 4),
                  (("behind", "f", "f"), 2), (("both", "f", ("shift", 0)), 2), (("either", "f", "g"), 2),
                  (("under", ("turn", "f"), "g"), 5), (("under", "g", ("turn", "f")), 4),
                  (("over", ("turn", "f"), "g"), 4), (("over", "g", ("turn", "f")), 5),
                  (("behind", ("under", "f", "g"), ("over", "f", "g")), 6), (("behind", ("turn", "f"), "g"), 3),
                  (("both", "g", ("turn", "f")), 3), (("either", ("turn", "f"), "g"), 3), (["turn", ["under", "f", "g"]], 6))
        for term, many in wanted:
            self.assertEqual(samples_of(term), many)
        self.assertEqual(samples_of(term="f"), 1)

    def test_values(self):
        for (one, other), k in zip(some_pairs(51, 100), list(range(-9, 10)) * 6):
            f, g = table_of(one), table_of(other)
            tables = (("g", g), ("x", Table(())), ("f", f))
            wanted = (f * g, f & g, f | g, under(f, g), over(f, g))
            for word, table in zip(PAIRED, wanted):
                self.assertEqual(value_of((word, "f", "g"), tables), table)
            self.assertEqual(value_of(("turn", "f"), tables), ~f)
            self.assertEqual(value_of(("shift", k), tables), Table.shift(k))
            self.assertEqual(value_of("f", tables), f)

    def test_inner_terms(self):
        f, g = Table((0,), (3, 3), 2), Table((), (1, 4), 3)
        term = ["both", ["turn", ["behind", "f", "g"]], ["behind", ["under", "f", ["shift", 0]], "g"]]
        wanted = ~(f * g) & under(f, Table.shift(0)) * g
        self.assertEqual(value_of(term, [["f", f], ["g", g]]), wanted)
        self.assertEqual(value_of(tables=(("f", f), ("g", g)), term=term), wanted)

    def test_values_with_no_names(self):
        found = value_of(("behind", ("shift", 2), ("shift", -3)), ())
        self.assertEqual([found(n) for n in range(1, 7)], [0, 0, 0, 3, 4, 5])


class Tables(unittest.TestCase):
    def wrong(self, tables, number):
        self.assertEqual(raised(BadTables, value_of, "f", tables), {"number": number})

    def test_no_tuple(self):
        for tables in (None, "f", 3, {"f": Table(())}, Table(()), True):
            self.wrong(tables, -1)

    def test_no_pairs(self):
        good = ("f", Table(()))
        for pair in (None, "fg", (), ("g",), ("g", Table(()), 1), ("G", Table(())), ("", Table(())), ("g", None),
                     ("abcd", Table(())), ("g", (1,)), (("shift", 1), Table(())), (1, Table(())), ("9", Table(()))):
            self.wrong((pair, good), 0)
            self.wrong([good, pair, pair], 1)
            self.wrong((pair,), 0)

    def test_names_twice(self):
        f = Table(())
        self.wrong((("f", f), ("g", f), ["f", f]), 2)
        self.wrong((("g", f), ("g", f), (1, f)), 1)

    def test_missing(self):
        term = ("both", ("turn", "b"), ("behind", "a", "c"))
        told = (("c", Table(())), ("d", Table(())))
        self.assertEqual(raised(Missing, value_of, term, told), {"name": "b"})
        self.assertEqual(raised(Missing, value_of, term, told + (("b", Table(())),)), {"name": "a"})
        self.assertEqual(raised(Missing, value_of, "f", ()), {"name": "f"})

    def test_order(self):
        self.assertEqual(raised(BadTerm, value_of, "F", None), {"thing": "F"})
        self.assertEqual(raised(TooMany, value_of, towers(61), None), {"word": "part"})
        self.assertEqual(raised(BadTables, value_of, "f", (("g", 1),)), {"number": 0})


class Any(unittest.TestCase):
    def some_term(self, chance, parts):
        if parts < 2 or chance.random() < 0.1:
            return chance.choice(["f", "g", "h1", ("shift", chance.randint(-3, 3))])
        if chance.random() < 0.2:
            return ("turn", self.some_term(chance, parts - 1))
        return (chance.choice(PAIRED), self.some_term(chance, parts // 2), self.some_term(chance, parts // 2))

    def slow_value(self, term, told):
        if isinstance(term, str):
            return told[term]
        if term[0] == "shift":
            return Table.shift(term[1])
        inner = [self.slow_value(part, told) for part in term[1:]]
        calls = {"turn": lambda f: ~f, "behind": lambda f, g: f * g, "both": lambda f, g: f & g,
                 "either": lambda f, g: f | g, "under": lambda f, g: ~(~g * f), "over": lambda f, g: ~(g * ~f)}
        return calls[term[0]](*inner)

    def test_any(self):
        chance = random.Random(52)
        for (one, other), (third, _) in zip(some_pairs(53, 200, 2, 1), some_pairs(54, 200, 2, 1)):
            told = {"f": table_of(one), "g": table_of(other), "h1": table_of(third)}
            term = self.some_term(chance, 8)
            self.assertEqual(value_of(term, tuple(told.items())), self.slow_value(term, told))


if __name__ == "__main__":
    unittest.main()
