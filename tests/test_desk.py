"""[34]: claims, desks, their deeds, undoing and trials."""

import random
import unittest

from helpers import raised
from making import some_web
from needforth.comparing import below
from needforth.desk import Desk
from needforth.errors import (BadClaim, BadDeed, BadName, BadRow, Lacking, NeedforthError, NoClaim, NothingDone, NoWeb,
                              TooMany, Twice)
from needforth.makers import Maker
from needforth.paces import kept
from needforth.surely import need, surely
from needforth.tables import Table
from needforth.webs import Web
from needforth.webtext import read_web
from rowing import some_counts, some_paces, some_table

NEVER = Table(())
NOUGHT = Table((), (0,), 0)
ONE = Maker(1, (), ((0, "give"),))
TWICE = Maker(1, (), ((0, 0, "give"),))
AHEAD = Maker(1, ("give",), ((0, "give"),))
LINES = ("given g", "row x of g: begin; way 0 give")
CLAIMS = (("comes", "x"), ("gives", "x", (("g", 3),), 3), ("needs", "x", "g", Table.shift(0)),
          ("keeps", "x", Table.shift(0), (("g", Table.shift(0)),)))


def slow_verdict(web, claim):
    """The verdict of a claim by the words of [34]."""
    word, row = claim[:2]
    others = {"comes": lambda: [], "gives": lambda: [name for name, _ in claim[2]], "needs": lambda: [claim[2]],
              "keeps": lambda: [name for name, _ in claim[3]]}[word]()
    if web.opens or row not in web.names or not set(others) <= set(web.givens):
        return None
    if word == "comes":
        return surely(web, row).holds
    if word == "gives":
        count = surely(web, row, claim[2]).count
        return count is None or count >= claim[3]
    if word == "needs":
        return below(need(web, row, claim[2]), claim[3]).holds
    return kept(web, row, claim[2], claim[3]).holds


def some_claim(chance, web):
    row = chance.choice(list(web) + ["x", "q"])
    word = chance.choice(("comes", "gives", "gives", "needs", "keeps"))
    if word == "comes":
        return word, row
    if word == "gives":
        return word, row, some_counts(chance, web), chance.choice([0, 1, 2, 5, 9])
    if word == "needs":
        return word, row, chance.choice(list(web.givens) + ["g", "k"]), some_table(chance)
    return word, row, some_table(chance, 1) * Table.shift(-2), some_paces(chance, list(web.givens) + ["k"], 0.5)


def state(desk):
    return desk.web, desk.claims, desk.verdicts, desk.events


class Making(unittest.TestCase):
    def test_example(self):
        desk = Desk(read_web(LINES), CLAIMS[:2])
        first = desk.put("x", TWICE, ("g",))
        second = desk.put("x", AHEAD, ("x",))
        self.assertEqual([first, second, desk.undo(), desk.verdicts],
                         [((1, True, False),), ((1, False, True),), ((1, True, False),), ((0, True), (1, False))])

    def test_attributes(self):
        web = read_web(LINES)
        desk = Desk(claims=[["comes", "x"], ["gives", "x", [["g", 2]], 3], ["keeps", "x", NOUGHT, [["g", NEVER]]]], web=web)
        self.assertEqual(desk.web, web)
        self.assertEqual(desk.claims, ((0, ("comes", "x")), (1, ("gives", "x", (("g", 2),), 3)),
                                       (2, ("keeps", "x", NOUGHT, (("g", NEVER),)))))
        self.assertEqual([desk.verdicts, desk.events], [((0, True), (1, False), (2, True)), ()])
        self.assertTrue(all(value.__class__ is bool for _, value in desk.verdicts))
        self.assertEqual(state(Desk(web)), (web, (), (), ()))

    def test_verdicts(self):
        web = read_web(("given g", "given k", "row x of g: begin; way 0 give; way 0 0 give", "row y of y: begin give; way 0 0 give"))
        for claim, verdict in (
                (("comes", "x"), True), (("comes", "y"), False), (("comes", "g"), None), (("comes", "z"), None),
                (("gives", "x", (), 10 ** 60 - 1), True), (("gives", "x", (("g", 6),), 3), True), (("gives", "x", (("g", 6),), 4), False),
                (("gives", "x", (("g", 0),), 0), True), (("gives", "x", (("x", 6),), 0), None), (("gives", "y", (("k", 0),), 1), True),
                (("gives", "y", (("g", 9), ("q", 9)), 1), None), (("gives", "g", (), 0), None),
                (("needs", "x", "g", Table((), (2,), 2)), True), (("needs", "x", "g", Table((2, 4, 5, 8, 10), (12,), 2)), False),
                (("needs", "x", "k", NOUGHT), True), (("needs", "y", "g", NOUGHT), False), (("needs", "y", "g", Table((0,))), True),
                (("needs", "x", "x", NEVER), None), (("needs", "g", "g", NEVER), None),
                (("keeps", "x", NEVER, ()), True), (("keeps", "x", NEVER, (("g", NEVER),)), True),
                (("keeps", "x", Table.shift(0), (("g", Table((), (2,), 2)),)), True),
                (("keeps", "x", Table.shift(0), (("g", Table((), (2,), 1)),)), False), (("keeps", "y", Table((1,), (2,), 0), ()), False),
                (("keeps", "x", NOUGHT, (("g", NEVER), ("y", NEVER))), None), (("keeps", "q", NOUGHT, ()), None)):
            self.assertEqual(Desk(web, (claim,)).verdicts, ((0, verdict),), claim)
            self.assertIs(Desk(web, (claim,)).verdicts[0][1], verdict)
            opened = Web(web.givens, web.rows + (("z", "f", ("x",)),))
            self.assertEqual(Desk(opened, (claim,)).verdicts, ((0, None),))

    def test_20_claims(self):
        web = read_web(LINES)
        desk = Desk(web, CLAIMS * 5)
        self.assertEqual([number for number, _ in desk.verdicts], list(range(20)))
        self.assertEqual(raised(TooMany, Desk, web, CLAIMS * 5 + CLAIMS[:1]), {"word": "claim"})
        self.assertEqual(raised(TooMany, desk.claim, CLAIMS[0]), {"word": "claim"})
        desk.drop(7)
        desk.claim(CLAIMS[0])
        self.assertEqual([number for number, _ in desk.claims], [n for n in range(21) if n != 7])

    def test_wrong(self):
        web = read_web(LINES)
        for thing in (None, "web", LINES, (web,), 0, ONE):
            self.assertEqual(raised(NoWeb, Desk, thing, None), {})
        for thing in (None, "comes", 3, {"comes": "x"}, NEVER):
            self.assertIs(raised(BadClaim, Desk, web, thing)["thing"], thing)
        for claim in wrong_claims():
            self.assertIs(raised(BadClaim, Desk, web, CLAIMS * 6 + (claim, None))["thing"], claim)
            self.assertIs(raised(BadClaim, Desk(web, CLAIMS * 5).claim, claim)["thing"], claim)


def wrong_claims():
    found = [None, "comes", (), 3, ("comes",), ("comes", "x", "x"), ("goes", "x"), (None, "x"), (["comes"], "x"), ("comes", "X"),
             ("comes", ""), ("comes", None), ("comes", "abcdefghi"), ("comes", ("x",)), NEVER, {"comes": "x"}, (True, "x")]
    found += [("gives", "x", counts, 1) for counts in (None, "g", ("g", 1), (("g",),), (("g", None),), (("g", -1),), (("g", True),),
                                                       (("G", 1),), (("g", 1), ("g", 1)), {"g": 1}, 3, ((None, 1),), ("g1",))]
    found += [("gives", "x", (), many) for many in (None, -1, True, "1", (1,))]
    found += [("gives", "x", ()), ("gives", "x"), ("gives", 1, (), 1), ("gives", "x", (), 1, 1)]
    found += [("needs", "x", "g", None), ("needs", "x", "g", 3), ("needs", "x", "g1", NEVER), ("needs", "x", None, NEVER),
              ("needs", "x", ("g",), NEVER), ("needs", "x", NEVER), ("needs", "x", "g", NEVER, 1), ("needs", None, "g", NEVER)]
    found += [("keeps", "x", NEVER, paces) for paces in (None, "g", (("g", 1),), (("g", NEVER), ("g", NEVER)), ((None, NEVER),),
                                                         (("g",),), {"g": NEVER}, (("g1", NEVER),), NEVER)]
    return found + [("keeps", "x", None, ()), ("keeps", "x", 3, ()), ("keeps", "x", NEVER), ("keeps", "x?", NEVER, ())]


class Deeds(unittest.TestCase):
    def setUp(self):
        self.desk = Desk(read_web(LINES), CLAIMS)

    def test_put(self):
        before = self.desk.web
        self.assertEqual(self.desk.put("y", ONE, ["x"]), ())
        self.assertEqual(self.desk.web, Web(("g",), (("x", ONE, ("g",)), ("y", ONE, ("x",)))))
        self.assertEqual(before, read_web(LINES))
        events = self.desk.put(sources=("g",), maker=TWICE, name="x")
        self.assertEqual(events, ((1, True, False), (2, True, False), (3, True, False)))
        self.assertEqual(self.desk.events, events)
        self.assertEqual(self.desk.web.rows, (("x", TWICE, ("g",)), ("y", ONE, ("x",))))
        self.assertEqual(self.desk.put("x", "f", ("y",)), ((0, True, None), (1, False, None), (2, False, None), (3, False, None)))
        self.assertEqual(self.desk.put("x", "e", ("x", "x")), ())
        self.assertEqual(self.desk.put("x", AHEAD, ("x",)), ((0, None, True), (1, None, True), (2, None, True), (3, None, True)))

    def test_grant_and_strike(self):
        self.assertEqual(self.desk.grant(name="k"), ())
        self.assertEqual(self.desk.web.givens, ("g", "k"))
        self.desk.put("y", ONE, ("y",))
        self.assertEqual(self.desk.put("x", AHEAD, ("k",)), ())
        self.assertEqual(self.desk.strike(name="g"), ((1, True, None), (2, True, None), (3, True, None)))
        self.assertEqual(self.desk.web.givens, ("k",))
        self.assertEqual(self.desk.strike("x"), ((0, True, None),))
        self.assertEqual(list(self.desk.web), ["y"])
        # the claims about it stay, and hold again when it comes back
        self.assertEqual([self.desk.claims, self.desk.put("x", AHEAD, ("k",))], [tuple(enumerate(CLAIMS)), ((0, None, True),)])

    def test_claim_and_drop(self):
        self.assertEqual(self.desk.claim(claim=["gives", "x", [["g", 4]], 5]), ())
        self.assertEqual(self.desk.claims[-1], (4, ("gives", "x", (("g", 4),), 5)))
        self.assertEqual(self.desk.verdicts[-1], (4, False))
        self.desk.put("x", AHEAD, ("g",))
        self.assertEqual(self.desk.events, ((4, False, True),))
        self.assertEqual(self.desk.drop(number=1), ())
        self.assertEqual(self.desk.events, ())
        self.assertEqual([number for number, _ in self.desk.verdicts], [0, 2, 3, 4])
        self.desk.drop(4)
        self.desk.claim(("comes", "q"))
        self.assertEqual(self.desk.verdicts, ((0, True), (2, True), (3, True), (5, None)))

    def test_web(self):
        web = Web((), (("x", AHEAD, ("x",)), ("y", TWICE, ("x",))))
        self.desk.web = web
        self.assertEqual([self.desk.web, self.desk.events], [web, ((1, True, None), (2, True, None), (3, True, None))])
        self.assertEqual(self.desk.undo(), ((1, None, True), (2, None, True), (3, None, True)))
        self.assertEqual(self.desk.web, read_web(LINES))

    def test_numbers(self):
        self.desk.drop(3)
        self.desk.undo()
        self.desk.claim(CLAIMS[0])
        self.desk.undo()
        self.assertEqual(self.desk.claims, tuple(enumerate(CLAIMS)))
        self.desk.claim(CLAIMS[0])
        # a number that was taken back is not given again
        self.assertEqual([number for number, _ in self.desk.claims], [0, 1, 2, 3, 5])

    def refused(self, wanted, attributes, call, *args):
        before, undone = state(self.desk), self.desk.events
        self.assertEqual(raised(wanted, call, *args), attributes)
        self.assertEqual(state(self.desk), before)
        self.assertIs(self.desk.events, undone)

    def test_refused(self):
        desk = self.desk
        desk.put("x", TWICE, ("g",))
        self.refused(Lacking, {"thing": "q"}, desk.put, "y", ONE, ("q",))
        self.refused(BadRow, {"number": 1}, desk.put, "y", ONE, ("x", "x"))
        self.refused(BadRow, {"number": 0}, desk.put, "x", None, ("x",))
        self.refused(BadRow, {"number": 1}, desk.put, "Y", ONE, ("x",))
        self.refused(BadRow, {"number": 1}, desk.put, None, ONE, ("x",))
        self.refused(BadRow, {"number": 1}, desk.put, ["x"], ONE, ("x",))
        self.refused(Twice, {"name": "g"}, desk.put, "g", ONE, ("x",))
        self.refused(Twice, {"name": "x"}, desk.grant, "x")
        self.refused(Twice, {"name": "g"}, desk.grant, "g")
        self.refused(BadName, {"number": 1}, desk.grant, "g1")
        self.refused(BadName, {"number": 1}, desk.grant, None)
        for thing in ("q", None, ["x"], 0, True, ONE):
            self.refused(Lacking, {"thing": thing}, desk.strike, thing)
        self.refused(Lacking, {"thing": "g"}, desk.strike, "g")
        self.refused(BadRow, {"number": -1}, desk.strike, "x")
        for number in (4, -1, None, True, False, "1", (1,), 10 ** 60):
            self.refused(NoClaim, {"number": number}, desk.drop, number)
        self.refused(BadClaim, {"thing": ("comes",)}, desk.claim, ("comes",))
        for thing in (None, LINES, 3):
            self.refused(NoWeb, {}, setattr, desk, "web", thing)
        self.assertEqual(desk.undo(), ((1, False, True), (2, False, True), (3, False, True)))

    def test_limits_of_webs(self):
        for name in "abcde":
            self.desk.put(name, ONE, ("x",))
        self.refused(BadRow, {"number": -1}, self.desk.put, "f", ONE, ("x",))
        self.desk.put("e", TWICE, ("x",))
        self.desk.grant("h")
        self.desk.grant("k")
        self.refused(BadName, {"number": -1}, self.desk.grant, "l")


class Undoing(unittest.TestCase):
    def test_several(self):
        desk = Desk(read_web(LINES), CLAIMS[:3])
        self.assertEqual(raised(NothingDone, desk.undo), {})
        seen = [state(desk)[:3]]
        for deed in (lambda: desk.put("x", TWICE, ("g",)), lambda: desk.claim(CLAIMS[3]), lambda: desk.drop(1), lambda: desk.grant("k"),
                     lambda: desk.put("x", AHEAD, ("k",)), lambda: desk.strike("g"), lambda: setattr(desk, "web", read_web(LINES))):
            deed()
            seen.append(state(desk)[:3])
        for before, after in list(zip(seen, seen[1:]))[::-1]:
            self.assertEqual(state(desk)[:3], after)
            earlier = dict(before[2])
            events = tuple((number, value, earlier[number]) for number, value in after[2]
                           if number in earlier and earlier[number] != value)
            self.assertEqual([desk.undo(), desk.events], [events, events])
            self.assertEqual(state(desk)[:3], before)
        self.assertEqual(raised(NothingDone, desk.undo), {})

    def test_deeds_between(self):
        desk = Desk(read_web(LINES), CLAIMS[:2])
        desk.put("x", TWICE, ("g",))
        desk.put("x", AHEAD, ("g",))
        desk.undo()
        desk.grant("k")
        self.assertEqual([desk.undo(), desk.web["x"][0]], [(), TWICE])
        self.assertEqual([desk.undo(), desk.web["x"][0]], [((1, False, True),), ONE])
        self.assertEqual(raised(NothingDone, desk.undo), {})
        self.assertEqual(desk.events, ((1, False, True),))


class Trials(unittest.TestCase):
    def setUp(self):
        self.desk = Desk(read_web(LINES), CLAIMS[:2])
        self.desk.put("x", TWICE, ("g",))

    def test_trial(self):
        before = state(self.desk)
        with self.desk.trial() as trial:
            self.assertIs(trial, self.desk)
            trial.claim(CLAIMS[2])
            trial.undo()
            trial.undo()
            self.assertEqual(raised(NothingDone, trial.undo), {})
            trial.put("x", AHEAD, ("x",))
            trial.claim(CLAIMS[3])
            self.assertEqual(trial.claims[-1][0], 3)
        self.assertEqual(state(self.desk), before)
        self.assertEqual(before[3], ((1, True, False),))
        self.desk.claim(CLAIMS[0])
        self.assertEqual(self.desk.claims[-1][0], 2)
        self.desk.undo()
        self.assertEqual(self.desk.undo(), ((1, False, True),))
        self.assertEqual(raised(NothingDone, self.desk.undo), {})

    def test_within_one_another(self):
        desk, before = self.desk, state(self.desk)
        with desk.trial() as outer:
            outer.grant("k")
            between = state(desk)
            with desk.trial() as inner:
                inner.claim(("comes", "q"))
                inner.put("x", AHEAD, ("x",))
                with desk.trial():
                    desk.drop(0)
                    self.assertEqual([number for number, _ in desk.claims], [1, 2])
                self.assertEqual([number for number, _ in desk.claims], [0, 1, 2])
            self.assertEqual(state(desk), between)
            desk.claim(("comes", "q"))
            self.assertEqual(desk.claims[-1][0], 2)
        self.assertEqual(state(desk), before)

    def test_entered_later(self):
        trial = self.desk.trial()
        self.desk.grant("k")
        before = state(self.desk)
        with trial:
            self.desk.grant("l")
        self.assertEqual(state(self.desk), before)
        with trial as desk:
            desk.undo()
        self.assertEqual(state(self.desk), before)

    def test_errors_leave(self):
        before = state(self.desk)
        for error in (ValueError, NothingDone, KeyboardInterrupt):
            with self.assertRaises(error):
                with self.desk.trial() as desk:
                    desk.put("x", AHEAD, ("x",))
                    desk.claim(CLAIMS[2])
                    raise error()
            self.assertEqual(state(self.desk), before)
        for _ in range(3):
            with self.desk.trial():
                self.desk.undo()
                continue
        self.assertEqual(state(self.desk), before)

    def test_tried(self):
        before = state(self.desk)
        found = self.desk.tried((("put", "x", AHEAD, ("x",)), ["claim", ["needs", "x", "g", NOUGHT]], ("drop", 0), ("grant", "k"),
                                 ("claim", ("comes", "y")), ("strike", "g")))
        self.assertEqual(found, ((1, None), (2, None), (3, None)))
        self.assertEqual(self.desk.tried(deeds=[["put", "x", AHEAD, ["x"]]]), ((0, True), (1, True)))
        self.assertEqual(self.desk.tried(()), self.desk.verdicts)
        self.assertEqual(state(self.desk), before)

    def test_tried_in_vain(self):
        before = state(self.desk)
        deeds = (("put", "x", AHEAD, ("x",)), ("claim", ("comes", "q")), ("drop", 7))
        self.assertEqual(raised(NoClaim, self.desk.tried, deeds), {"number": 7})
        self.assertEqual(raised(Lacking, self.desk.tried, deeds[:2] + (("strike", "q"), ("drop", 7))), {"thing": "q"})
        self.assertEqual(raised(BadClaim, self.desk.tried, (("claim", 3), ("drop", 7))), {"thing": 3})
        self.assertEqual(state(self.desk), before)
        self.desk.claim(("comes", "q"))
        self.assertEqual(self.desk.claims[-1][0], 2)

    def test_bad_deeds(self):
        for deeds in (None, "drop", 3, {"drop": 1}):
            self.assertEqual(raised(BadDeed, self.desk.tried, deeds), {"number": -1})
        for deed in (None, "drop", (), ("drop",), ("drop", 1, 2), ("undo",), ("web", None), ("put", "x", ONE), ("put", "x", ONE, ("g",), 1),
                     ("grant",), ("strike",), ("claim",), ("claim", "comes", "x"), (None, 1), (["drop"], 1), ("tried", ()), ("trial",)):
            self.assertEqual(raised(BadDeed, self.desk.tried, (("drop", 77), deed, None)), {"number": 1}, deed)


class AnyDeeds(unittest.TestCase):
    def test_any(self):
        chance = random.Random(341)
        refused = done = 0
        for _ in range(25):
            web = some_web(chance, False)
            desk = Desk(web, [some_claim(chance, web) for _ in range(6)])
            for _ in range(12):
                before = dict(desk.verdicts)
                kept_state = state(desk)
                try:
                    events = self.deed(chance, desk)
                except NeedforthError:
                    refused += 1
                    self.assertEqual(state(desk), kept_state)
                    continue
                done += 1
                self.assertEqual(desk.verdicts, tuple((number, slow_verdict(desk.web, claim)) for number, claim in desk.claims))
                wanted = tuple((number, before[number], value) for number, value in desk.verdicts
                               if number in before and before[number] != value)
                self.assertEqual([events, desk.events], [wanted, wanted])
        self.assertGreater(refused, 20)
        self.assertGreater(done, 100)

    def deed(self, chance, desk):
        """Do a deed by chance and return its events."""
        other = some_web(chance, False)
        name, maker, sources = chance.choice(other.rows)
        word = chance.choice(("put", "put", "put", "grant", "strike", "claim", "drop", "undo", "web"))
        if word == "put":
            name = chance.choice(list(desk.web) + [name])
            sources = [chance.choice(list(desk.web.givens) + list(desk.web) + [name]) for _ in sources]
            return desk.put(name, maker if chance.random() < 0.9 else "f", sources)
        if word == "web":
            desk.web = other
            return desk.events
        if word == "undo":
            return desk.undo()
        if word == "drop":
            return desk.drop(chance.randint(0, 8))
        if word == "claim":
            return desk.claim(some_claim(chance, desk.web))
        if word == "grant":
            return desk.grant(chance.choice("ghk"))
        return desk.strike(chance.choice(list(desk.web.givens) + list(desk.web)))


if __name__ == "__main__":
    unittest.main()
