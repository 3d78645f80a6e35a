"""[9] and [10]: the text of terms and sayings."""

import random
import unittest

from helpers import raised
from needforth.errors import BadSaying, BadTerm, BadText, TooMany
from needforth.termtext import read_saying, read_term, write_saying, write_term

LETTERS = "abcdefghijklmnopqrstuvwxyz"
FIGURES = "0123456789"
ALPHABET = "fgz09+-~()*&| <=underov"
PAIRED = ("behind", "both", "either", "under", "over")

# the grammar of [10], character by character: for each symbol the rows of symbols and characters that it makes
GRAMMAR = {
    "SAYING": [("EITHER", *" <= ", "EITHER")],
    "EITHER": [("BOTH",), ("EITHER", *" | ", "BOTH")],
    "BOTH": [("RESIDUE",), ("BOTH", *" & ", "RESIDUE")],
    "RESIDUE": [("PRODUCT",), ("PRODUCT", *" under ", "PRODUCT"), ("PRODUCT", *" over ", "PRODUCT")],
    "PRODUCT": [("TURNED",), ("PRODUCT", *" * ", "TURNED")],
    "TURNED": [("~", "TURNED"), ("NAME",), ("+", "FIGURE"), ("-", "COUNTED"), ("(", "EITHER", ")")],
    "NAME": [("LETTER",), ("LETTER", "SIGN"), ("LETTER", "SIGN", "SIGN")],
    "SIGN": [("LETTER",), ("FIGURE",)],
    "LETTER": [(letter,) for letter in LETTERS],
    "FIGURE": [("0",), ("COUNTED",)],
    "COUNTED": [(figure,) for figure in FIGURES[1:]],
}


class Charts:
    """Which rows of the grammar may stand where in a text (Earley's way)."""

    def __init__(self, start):
        self.start = start

    def fill(self, charts, at):
        chart = charts[at]
        pending = list(chart)
        while pending:
            symbol, row, dot, origin = pending.pop()
            if dot == len(row):
                found = [(s, r, d + 1, o) for s, r, d, o in charts[origin] if d < len(r) and r[d] == symbol]
            elif row[dot] in GRAMMAR:
                found = [(row[dot], made, 0, at) for made in GRAMMAR[row[dot]]]
            else:
                continue
            for state in found:
                if state not in chart:
                    chart.add(state)
                    pending.append(state)

    def first_wrong(self, text):
        """The place that BadText bears, None for a right text."""
        charts = [{(self.start, row, 0, 0) for row in GRAMMAR[self.start]}]
        self.fill(charts, 0)
        for at, sign in enumerate(text):
            charts.append({(s, r, d + 1, o) for s, r, d, o in charts[at] if d < len(r) and r[d] == sign})
            if not charts[-1]:
                return at
            self.fill(charts, at + 1)
        if any(s == self.start and d == len(r) and o == 0 for s, r, d, o in charts[-1]):
            return None
        return len(text)


def some_term(chance, depth):
    if depth == 0 or chance.random() < 0.15:
        return chance.choice(["f", "g", "x1", "abc", ("shift", 0), ("shift", 9), ("shift", -9), ("shift", 1)])
    word = chance.choice(PAIRED + ("turn",))
    if word == "turn":
        return (word, some_term(chance, depth - 1))
    return (word, some_term(chance, depth - 1), some_term(chance, depth - 1))


def as_lists(term):
    return [as_lists(part) for part in term] if isinstance(term, tuple) else term


class Writing(unittest.TestCase):
    WANTED = (
        ("f", "f"), (("shift", 0), "+0"), (("shift", 9), "+9"), (("shift", -1), "-1"), (("turn", "f"), "~f"),
        (("turn", ("turn", ("shift", 3))), "~~+3"), (("turn", ("behind", "f", "g")), "~(f * g)"),
        (("behind", ("turn", "f"), "g"), "~f * g"), (("behind", "f", ("turn", "g")), "f * ~g"),
        (("behind", ("behind", "f", "g"), "h"), "f * g * h"), (("behind", "f", ("behind", "g", "h")), "f * (g * h)"),
        (("both", ("both", "f", "g"), "h"), "f & g & h"), (("both", "f", ("both", "g", "h")), "f & (g & h)"),
        (("either", ("either", "f", "g"), "h"), "f | g | h"), (("either", "f", ("either", "g", "h")), "f | (g | h)"),
        (("under", "f", ("behind", "g", "h")), "f under g * h"), (("over", ("behind", "f", "g"), "h"), "f * g over h"),
        (("under", ("under", "f", "g"), "h"), "(f under g) under h"), (("over", "f", ("over", "g", "h")), "f over (g over h)"),
        (("under", ("over", "f", "g"), "h"), "(f over g) under h"), (("under", "f", ("both", "g", "h")), "f under (g & h)"),
        (("behind", ("under", "f", "g"), "h"), "(f under g) * h"), (("both", ("under", "f", "g"), "h"), "f under g & h"),
        (("both", "f", ("under", "g", "h")), "f & g under h"), (("either", ("both", "f", "g"), "h"), "f & g | h"),
        (("both", ("either", "f", "g"), "h"), "(f | g) & h"), (("either", "f", ("both", "g", "h")), "f | g & h"),
        (("both", "f", ("either", "g", "h")), "f & (g | h)"), (("turn", ("either", "f", "g")), "~(f | g)"),
        (("both", ("turn", ("behind", "f", "g")), ("behind", ("under", "f", ("shift", 0)), "g")),
         "~(f * g) & (f under +0) * g"),
    )

    def test_texts(self):
        for term, text in self.WANTED:
            self.assertEqual(write_term(term), text)
            self.assertEqual(write_term(as_lists(term)), text)
            self.assertEqual(read_term(text), term)
        self.assertEqual(write_term(term="f"), "f")

    def test_there_and_back(self):
        chance = random.Random(61)
        for _ in range(1500):
            term = some_term(chance, 4)
            text = write_term(term)
            self.assertEqual(read_term(text), term)
            self.assert_no_pair_can_go(text, term)

    def assert_no_pair_can_go(self, text, term):
        """Without any one pair of brackets the text is another term or none."""
        opened = []
        for at, sign in enumerate(text):
            if sign == "(":
                opened.append(at)
            elif sign == ")":
                start = opened.pop()
                shorter = text[:start] + text[start + 1:at] + text[at + 1:]
                if Charts("EITHER").first_wrong(shorter) is None:
                    self.assertNotEqual(read_term(shorter), term)

    def test_sayings(self):
        saying = (("either", "f", "g"), ("turn", "h"))
        self.assertEqual(write_saying(saying), "f | g <= ~h")
        self.assertEqual(write_saying(as_lists(saying)), "f | g <= ~h")
        self.assertEqual(write_saying(saying=["f", ["shift", -1]]), "f <= -1")
        self.assertEqual(write_saying(("f", ("either", ("shift", 1), "g"))), "f <= +1 | g")

    def test_wrong_terms(self):
        for thing in ("F", ("shift", 10), None, ["both", "f", ("turn",)], (), ("shift", True)):
            self.assertIs(raised(BadTerm, write_term, thing)["thing"], thing)
        long = ["both", "f", "f"]
        for _ in range(29):
            long = ["both", long, "f"]
        self.assertEqual(raised(TooMany, write_term, long), {"word": "part"})
        self.assertEqual(write_term(["turn", long[1]]), "~(" + " & ".join(["f"] * 30) + ")")

    def test_wrong_sayings(self):
        for thing in (None, "fg", "f <= g", (), ("f",), ("f", "g", "h"), 3, True, {"f": "g"}):
            self.assertIs(raised(BadSaying, write_saying, thing)["thing"], thing)
        bad, worse = ("turn", "F"), ["behind", "g", ["shift", 11]]
        self.assertIs(raised(BadTerm, write_saying, (bad, worse))["thing"], bad)
        self.assertIs(raised(BadTerm, write_saying, ("f", worse))["thing"], worse)
        long = "f"
        for _ in range(60):
            long = ("turn", long)
        for saying in ((long, "f"), ("f", long), (long, long)):
            self.assertEqual(raised(TooMany, write_saying, saying), {"word": "part"})
        self.assertIs(raised(BadTerm, write_saying, (long, worse))["thing"], worse)
        self.assertEqual(write_saying((long[1], long[1])), "~" * 59 + "f <= " + "~" * 59 + "f")


class Reading(unittest.TestCase):
    def wrong(self, text, place, call=read_term):
        self.assertEqual(raised(BadText, call, text), {"place": place}, text)

    def test_needless_brackets(self):
        wanted = ("both", ("turn", "f"), ("behind", "g", ("shift", 2)))
        for text in ("~f & g * +2", "(~f & g * +2)", "(~f) & (g * +2)", "~(f) & ((g)) * (+2)", "(((~f))) & g * +2"):
            self.assertEqual(read_term(text), wanted)
        self.assertEqual(read_saying("(f) <= ((g & h))"), ("f", ("both", "g", "h")))

    def test_many_brackets(self):
        self.assertEqual(read_term("(" * 30 + "f" + ")" * 30), "f")
        self.assertEqual(read_term("~(" * 30 + "f" + ")" * 30), read_term("~" * 30 + "f"))
        self.wrong("(" * 30 + "f" + ")" * 29, 60)
        self.wrong("(" * 30 + "f" + ")" * 31, 61)

    def test_examples(self):
        self.wrong("f * * g", 4)

    def test_no_string(self):
        for thing in (None, 3, ("f",), ["f"], b"f", True):
            self.wrong(thing, -1)
            self.wrong(thing, -1, read_saying)

    def test_lacks_an_end(self):
        for text in ("", "f ", "f &", "f & ", "f under ", "f un", "~", "(f", "(f & g", "-", "+", "~~("):
            self.wrong(text, len(text))
            self.wrong(text, len(text), read_saying)
        for text in ("f", "f * g", "(f) ", "f <", "f <= ", "f <= (g", "~f <= ~"):
            self.wrong(text, len(text), read_saying)

    def test_wrong_characters(self):
        wanted = (("F", 0), (" f", 0), ("f  & g", 2), ("f&g", 1), ("f & & g", 4), ("abcd", 3), ("ab_", 2), ("9", 0),
                  ("-0", 1), ("+10", 2), ("+a", 1), ("~ f", 1), ("( f)", 1), ("(f )", 3), ("f)", 1), ("()", 1),
                  ("f undr g", 5), ("f underg", 7), ("f ove g", 5), ("f x", 2), ("f <= g", 2), ("fg h", 3), ("f*", 1),
                  ("f under g under h", 10), ("f over g * h over i", 13), ("f over g & h under i under j", 21),
                  ("f under (g under h over i)", 19), ("f +1", 2), ("f+1", 1), ("++1", 1), ("f~", 1), ("f(g)", 1),
                  ("f under g over h", 10), ("(f <= g)", 3))
        for text, place in wanted:
            self.wrong(text, place)
        wanted = (("f <= g <= h", 7), ("(f <= g", 3), ("f < g", 3), ("f <=g", 4), ("f => g", 2), ("f == g", 2),
                  ("f <= g)", 6), ("f <= <= g", 5), ("f <= under", 8), ("f under g under h <= i", 10))
        for text, place in wanted:
            self.wrong(text, place, read_saying)

    def test_resets(self):
        for text in ("f under g & h under i", "f over g | h over i", "(f under g) under (h over i)",
                     "f under (g over h) & i over j"):
            self.assertEqual(write_term(read_term(text)), text)
        self.assertEqual(read_saying("f under g <= h over i"), (("under", "f", "g"), ("over", "h", "i")))

    def test_parts(self):
        for text, parts in (("~" * 59 + "f", 60), (" & ".join(["f"] * 30), 59), ("~" + " | ".join(["f"] * 30), 60)):
            self.assertEqual(write_term(read_term(text)), text, parts)
        for text in ("~" * 60 + "f", "~" * 1999 + "f", " * ".join(["f"] * 31), "(" * 20 + " & ".join(["f"] * 400) + ")" * 20):
            self.assertEqual(raised(TooMany, read_term, text), {"word": "part"})
            self.assertEqual(raised(TooMany, read_saying, text + " <= f"), {"word": "part"})
            self.assertEqual(raised(TooMany, read_saying, "f <= " + text), {"word": "part"})
            self.wrong(text + " ", len(text) + 1)
            self.wrong(text + ")", len(text))
            self.wrong(text + " <= f)", len(text) + 5, read_saying)
        half = "~" * 59 + "f"
        self.assertEqual(write_saying(read_saying(half + " <= " + half)), half + " <= " + half)

    def test_by_name(self):
        self.assertEqual(read_term(text="-9"), ("shift", -9))
        self.assertEqual(read_saying(text="f <= +0"), ("f", ("shift", 0)))

    def check(self, text):
        for call, start in ((read_term, "EITHER"), (read_saying, "SAYING")):
            place = Charts(start).first_wrong(text)
            if place is None:
                call(text)
            else:
                self.wrong(text, place, call)

    def test_any_text(self):
        chance = random.Random(62)
        for _ in range(1200):
            text = write_term(some_term(chance, 3))
            if chance.random() < 0.5:
                text = text + " <= " + write_term(some_term(chance, 2))
            at = chance.randint(0, len(text))
            self.check(text[:at])
            self.check(text[:at] + chance.choice(ALPHABET) + text[at:])
            self.check(text[:at] + text[at + 1:])
            self.check(text[:at] + chance.choice(ALPHABET) + text[at + 1:])

    def test_short_texts(self):
        texts = [""]
        for _ in range(3):
            texts = [text + sign for text in texts for sign in ALPHABET]
            for text in texts[::7] if len(texts) > 1000 else texts:
                self.check(text)


if __name__ == "__main__":
    unittest.main()
