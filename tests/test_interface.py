"""[1] and the interface: where everything stands, its arguments by their names, and what is never changed."""

import copy
import importlib
import inspect
import unittest

from needforth.courses import course_of, greatest, least, maker_of
from needforth.comparing import below, gap, parting
from needforth.desk import Desk
from needforth.everywhere import enough, everywhere
from needforth.facts import keep
from needforth.holes import widest
from needforth.inside import inside
from needforth.makers import Maker
from needforth.paces import earliest, kept, least_paces
from needforth.plans import latest, planned, stores
from needforth.residues import over, under
from needforth.running import run
from needforth.sheets import Sheet
from needforth.sights import Fits
from needforth.surely import judge_chain, need, surely
from needforth.tables import Table
from needforth.tabletext import read_table, write_table
from needforth.terms import names_of, samples_of, value_of
from needforth.termtext import read_saying, read_term, write_saying, write_term
from needforth.trees import judge_tree
from needforth.unknown import ask_term, forever, ring_terms
from needforth.verdicts import Verdict
from needforth.ways import direct, ring_table, rings, way_table, ways
from needforth.webs import Web
from needforth.webtext import read_web, write_web

# for each module its functions and classes, the parameters of each, and for a class its methods and properties
INTERFACE = {
    "tables": {"Table": "head loop=() rise=0 | __call__ end rate steady shift __mul__ __and__ __or__ __invert__ __eq__"},
    "verdicts": {"Verdict": "holds |"},
    "comparing": {"Below": "|", "below": "first second", "Gap": "| beyond", "gap": "first second", "parting": "first second"},
    "residues": {"under": "first second", "over": "first second"},
    "tabletext": {"write_table": "table", "read_table": "text"},
    "terms": {"names_of": "term", "samples_of": "term", "value_of": "term tables"},
    "termtext": {"write_term": "term", "read_term": "text", "write_saying": "saying", "read_saying": "text"},
    "facts": {"keep": "tables facts"},
    "sheets": {"Sheet": "saying facts=() cap=None |"},
    "trees": {"judge_tree": "saying facts tree cap=None"},
    "everywhere": {"Everywhere": "|", "everywhere": "saying facts=()", "enough": "saying facts"},
    "makers": {"Maker": "inlets begin ways | need __eq__"},
    "courses": {"least": "maker inlet", "greatest": "maker inlet", "course_of": "maker inlet piece most=True", "maker_of": "tables"},
    "webs": {"Web": "givens rows | __getitem__ __contains__ __iter__ __len__ opens filled __eq__"},
    "webtext": {"write_web": "web", "read_web": "lines"},
    "ways": {"direct": "web row other", "ways": "web row other", "rings": "web row", "way_table": "web way", "ring_table": "web ring"},
    "running": {"run": "web courses=() counts=()"},
    "surely": {"Surely": "|", "surely": "web row counts=()", "judge_chain": "web row counts chain", "need": "web row given"},
    "paces": {"Kept": "|", "kept": "web row pace paces=()", "earliest": "web row paces=()", "least_paces": "web row pace"},
    "holes": {"Widest": "|", "widest": "web row pace paces=()"},
    "plans": {"Planned": "|", "planned": "web plan", "latest": "web wanted", "stores": "web plan"},
    "unknown": {"ask_term": "web row other", "ring_terms": "web row", "Forever": "|", "forever": "web row facts=()"},
    "sights": {"Fits": "above=() below=() | seen __contains__ __and__ sure unsure __eq__"},
    "inside": {"inside": "web row given sights"},
    "desk": {"Desk": "web claims=() | web claims verdicts events put grant strike claim drop undo trial tried"},
}
METHODS = {"Table": {"shift": "k", "__call__": "n"}, "Gap": {"beyond": "k"}, "Maker": {"need": "inlet course"}, "Web": {"filled": "makers"},
           "Fits": {"seen": "sights", "sure": "taken"},
           "Desk": {"put": "name maker sources", "grant": "name", "strike": "name", "claim": "claim", "drop": "number", "undo": "",
                    "trial": "", "tried": "deeds"}}


def parameters_of(called):
    found = []
    for one in inspect.signature(called).parameters.values():
        if one.name != "self":
            found.append(one.name if one.default is one.empty else "{}={!r}".format(one.name, one.default))
    return " ".join(found)


class Interface(unittest.TestCase):
    def test_where_everything_stands(self):
        for module, names in INTERFACE.items():
            here = importlib.import_module("needforth." + module)
            for name, told in names.items():
                thing = vars(here)[name]
                self.assertEqual(thing.__module__, "needforth." + module)
                parameters, _, methods = told.partition("|")
                if not told.startswith("|"):
                    self.assertEqual(parameters_of(thing), parameters.strip(), name)
                for method in methods.split():
                    self.assertIn(method, vars(thing), name)

    def test_parameters_of_methods(self):
        for name, methods in METHODS.items():
            module = next(module for module, names in INTERFACE.items() if name in names)
            for method, parameters in methods.items():
                made = getattr(importlib.import_module("needforth." + module), name)
                self.assertEqual(parameters_of(getattr(made, method)), parameters, name + "." + method)

    def test_kinds(self):
        self.assertIsInstance(vars(Table)["shift"], staticmethod)
        self.assertIsInstance(vars(Fits)["seen"], staticmethod)
        for made, names in ((Table, "end rate steady"), (Web, "opens"), (Fits, "unsure"), (Desk, "web claims verdicts events")):
            for name in names.split():
                self.assertIsInstance(vars(made)[name], property)
        self.assertIsNotNone(Desk.web.fset)

    def test_verdicts(self):
        web = read_web(("given g", "row x of g: begin; way 0 give"))
        for told in (below(Table.shift(0), Table.shift(1)), everywhere(("f", "f")), surely(web, "x"), kept(web, "x", Table.shift(0)),
                     planned(web, (("g", Table(())), ("x", Table(())))), forever(web, "x")):
            self.assertIsInstance(told, Verdict)
            self.assertTrue(told.holds is True and bool(told) is True)
        self.assertEqual([bool(Verdict(True)), bool(Verdict(holds=False)), Verdict(False).holds], [True, False, False])


ONE, TWO = Table.shift(1), Table((), (2,), 2)
MAKER = Maker(1, ("give",), ((0, "give"), (0, 0, "give")))
LINES = ["given g", "given k", "row x of g: begin give; way 0 give", "row y of x y: begin give; way 0 1 give"]
OPEN = read_web(["given g", "row x of g by f", "row y of x: begin; way 0 give"])
WEB = read_web(LINES)
RING = read_web(["row x of y: begin give give; way 0 give", "row y of x by f"])
SAYING, FACTS = ["f", ["behind", "g", ["shift", 1]]], [["f", "g"], ["g", ["shift", 3]]]
COUNTS = [["g", 4]]
PACES = [["g", ONE], ["k", TWO]]
PLAN = [["y", ONE], ["x", ONE], ["k", TWO], ["g", ONE]]

# calls with all arguments in the order of the parameters; lists stand in the place of tuples wherever they may
CALLS = [
    (Table, ("head", [0, 2]), ("loop", [3, 3]), ("rise", 2)), (Table((1, 4), (5,), 1), ("n", 7)), (Table.shift, ("k", -3)),
    (Verdict, ("holds", False)),
    (below, ("first", TWO), ("second", ONE)), (gap, ("first", TWO), ("second", ONE)), (gap(Table((), (5,), 1), ONE).beyond, ("k", 1)),
    (parting, ("first", TWO), ("second", ONE)), (under, ("first", TWO), ("second", ONE)), (over, ("first", TWO), ("second", ONE)),
    (write_table, ("table", TWO)), (read_table, ("text", "0 2 then 3 3 up 2")), (names_of, ("term", SAYING[1])),
    (samples_of, ("term", SAYING[1])), (value_of, ("term", SAYING[1]), ("tables", [["g", TWO], ["f", ONE]])),
    (write_term, ("term", SAYING[1])), (read_term, ("text", "f * ~g")), (write_saying, ("saying", SAYING)),
    (read_saying, ("text", "f <= ~g")), (keep, ("tables", [["g", TWO], ["f", ONE]]), ("facts", FACTS)),
    (Sheet, ("saying", SAYING), ("facts", FACTS), ("cap", 9)),
    (judge_tree, ("saying", ["f", "f"]), ("facts", FACTS), ("tree", [["ring", [[2, 2, -1]]]]), ("cap", 3)),
    (everywhere, ("saying", SAYING), ("facts", FACTS)), (enough, ("saying", SAYING), ("facts", FACTS)),
    (Maker, ("inlets", 2), ("begin", [0, "give"]), ("ways", [[1, "give"], [0]])), (MAKER.need, ("inlet", 0), ("course", [[0, 1], [1]])),
    (least, ("maker", MAKER), ("inlet", 0)), (greatest, ("maker", MAKER), ("inlet", 0)),
    (course_of, ("maker", MAKER), ("inlet", 0), ("piece", 5), ("most", False)), (maker_of, ("tables", [ONE, TWO])),
    (Web, ("givens", ["g"]), ("rows", [["x", MAKER, ["g"]], ["y", "f", ["x", "g"]]])), (OPEN.filled, ("makers", [["f", MAKER]])),
    (write_web, ("web", WEB)), (read_web, ("lines", LINES)), (direct, ("web", WEB), ("row", "x"), ("other", "g")),
    (ways, ("web", WEB), ("row", "y"), ("other", "g")), (rings, ("web", WEB), ("row", "y")),
    (way_table, ("web", WEB), ("way", ["y", "x", "g"])), (ring_table, ("web", WEB), ("ring", ["y"])),
    (run, ("web", WEB), ("courses", [["x", [[], [0]]]]), ("counts", COUNTS)), (surely, ("web", WEB), ("row", "y"), ("counts", COUNTS)),
    (judge_chain, ("web", WEB), ("row", "y"), ("counts", COUNTS), ("chain", [["y", 7], ["x", 6], ["g", 5]])),
    (need, ("web", WEB), ("row", "y"), ("given", "g")), (kept, ("web", WEB), ("row", "y"), ("pace", TWO), ("paces", PACES)),
    (earliest, ("web", WEB), ("row", "y"), ("paces", PACES)), (least_paces, ("web", WEB), ("row", "y"), ("pace", TWO)),
    (widest, ("web", OPEN), ("row", "y"), ("pace", Table.shift(0)), ("paces", [["g", ONE]])),
    (planned, ("web", WEB), ("plan", PLAN)), (latest, ("web", WEB), ("wanted", [["y", ONE]])), (stores, ("web", WEB), ("plan", PLAN)),
    (ask_term, ("web", RING), ("row", "x"), ("other", "y")), (ring_terms, ("web", RING), ("row", "x")),
    (forever, ("web", RING), ("row", "x"), ("facts", [["f0", ["shift", 2]]])),
    (Fits, ("above", [[2, 5]]), ("below", [[1, 1], [4, None]])), (Fits.seen, ("sights", [[3, 1], [5, 2]])),
    (Fits(((2, 5),)).sure, ("taken", 3)), (inside, ("web", OPEN), ("row", "y"), ("given", "g"), ("sights", [[3, 1]])),
    (Desk, ("web", WEB), ("claims", [["comes", "x"], ["gives", "x", [["g", 3]], 3], ["keeps", "y", ONE, [["g", TWO]]]])),
]
DEEDS = [
    ("put", ("name", "x"), ("maker", MAKER), ("sources", ["k"])), ("grant", ("name", "h")), ("strike", ("name", "k")),
    ("claim", ("claim", ["gives", "x", [["g", 3]], 5])), ("drop", ("number", 0)), ("undo",), ("trial",),
    ("tried", ("deeds", [["put", "x", MAKER, ["k"]], ["drop", 1]])),
]


def shown(thing):
    """What can be seen of a thing, for comparing."""
    if isinstance(thing, (tuple, list)):
        return [thing.__class__.__name__] + [shown(part) for part in thing]
    if hasattr(thing, "__dict__"):
        return [thing.__class__.__name__] + [(name, shown(part)) for name, part in sorted(vars(thing).items())]
    return repr(thing)


def tuples_alone(thing):
    """Whether no list stands in what is returned or in what objects of the program keep."""
    if isinstance(thing, tuple):
        return all(tuples_alone(part) for part in thing)
    if isinstance(thing, list):
        return False
    public = [name for name in ("head", "loop", "sides", "points", "bounds", "clauses", "samples", "tree", "tables", "begin", "ways",
                                "givens", "rows", "chain", "courses", "ring", "above", "below", "claims", "verdicts", "events")
              if hasattr(thing, name)]
    return all(tuples_alone(getattr(thing, name)) for name in public)


class Calls(unittest.TestCase):
    def test_by_names_in_another_order(self):
        for called, *arguments in CALLS:
            given = copy.deepcopy(arguments)
            more = dict(arguments[::-1])
            found = called(**more)
            self.assertEqual(shown(found), shown(called(**dict(arguments))), called)
            if called is not course_of:
                self.assertEqual(shown(found), shown(called(*[thing for _, thing in arguments])), called)
            self.assertEqual(shown(given), shown(arguments), called)
            self.assertTrue(tuples_alone(found), called)

    def test_all_functions_and_classes_are_called(self):
        called = {getattr(call[0], "__name__", "") for call in CALLS} | {deed[0] for deed in DEEDS}
        for names in INTERFACE.values():
            for name, told in names.items():
                self.assertTrue(name in called or told.startswith("|"), name)
        for methods in METHODS.values():
            for name in methods:
                self.assertTrue(name in called or name == "__call__", name)

    def test_deeds(self):
        for word, *arguments in DEEDS:
            one, other = [Desk(WEB, (("comes", "x"), ("gives", "x", (("g", 3),), 3))) for _ in range(2)]
            for desk in (one, other):
                desk.put("x", "f", ("g",))
            given = copy.deepcopy(arguments)
            found = getattr(one, word)(**dict(arguments[::-1]))
            if word != "trial":
                self.assertEqual(shown(found), shown(getattr(other, word)(*[thing for _, thing in arguments])), word)
                self.assertTrue(tuples_alone(found) and tuples_alone(one), word)
            self.assertEqual([shown(one.web), one.claims, one.verdicts, one.events],
                             [shown(other.web), other.claims, other.verdicts, other.events])
            self.assertEqual(shown(given), shown(arguments), word)

    def test_lists_and_tuples(self):
        for called, *arguments in CALLS:
            found = called(**dict(arguments))
            settled = {name: in_tuples(thing) for name, thing in arguments}
            self.assertEqual(shown(called(**settled)), shown(found), called)


def in_tuples(thing):
    return tuple(in_tuples(part) for part in thing) if isinstance(thing, list) else thing


if __name__ == "__main__":
    unittest.main()
