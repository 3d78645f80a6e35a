"""[1] and the interface: the classes of errors."""

import unittest

from needforth import errors

BY_ATTRIBUTE = {
    "word": "TooMany BadTable BadMaker BadBound",
    "thing": "BadCount BadTerm BadSaying BadInlet BadCourse Lacking BadClaim",
    "number": ("BadTables BadFact BadName BadRow BadMakers BadCounts BadCourses BadPaces BadPlan BadSight BadDeed"
               " NoClaim"),
    "name": "Missing Twice Open",
}


class Errors(unittest.TestCase):
    def check(self, name, base, attribute):
        made = getattr(errors, name)
        self.assertEqual(made.__bases__, (base,))
        thing = ["any", (1, 2)]
        self.assertIs(getattr(made(thing), attribute), thing)
        self.assertEqual(vars(made(thing)), {attribute: thing})
        self.assertEqual(vars(made(**{attribute: 3})), {attribute: 3})
        self.assertRaises(TypeError, made)

    def test_bases(self):
        self.assertEqual(errors.NeedforthError.__bases__, (ValueError,))
        self.assertEqual(errors.Unreadable.__bases__, (errors.NeedforthError,))
        self.assertEqual(errors.Impossible.__bases__, (errors.NeedforthError,))

    def test_unreadable(self):
        self.check("BadText", errors.Unreadable, "place")
        self.check("BadLine", errors.Unreadable, "line")

    def test_impossible(self):
        wanted = (("AtOdds", "thing"), ("NoPace", "stage"), ("NoWay", "thing"), ("NotShift", "row"),
                  ("NotWhole", "row"), ("Ringed", "row"), ("Unseen", "number"))
        for name, attribute in wanted:
            self.check(name, errors.Impossible, attribute)
        for name in ("NoHole", "NothingDone"):
            self.check_bare(name, errors.Impossible)

    def check_bare(self, name, base):
        made = getattr(errors, name)
        self.assertEqual(made.__bases__, (base,))
        self.assertEqual(vars(made()), {})

    def test_all_others(self):
        for attribute, names in BY_ATTRIBUTE.items():
            for name in names.split():
                self.check(name, errors.NeedforthError, attribute)
        for name in ("BadPace", "NoWeb"):
            self.check_bare(name, errors.NeedforthError)

    def test_nothing_else(self):
        many = len([name for name in vars(errors) if name[0].isupper()])
        self.assertEqual(many, 3 + 2 + 9 + sum(len(names.split()) for names in BY_ATTRIBUTE.values()) + 2)


if __name__ == "__main__":
    unittest.main()
