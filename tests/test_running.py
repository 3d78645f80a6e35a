"""[22]: counts, courses, and how many pieces come in the end."""

import random
import unittest

from helpers import raised
from making import some_web
from needforth.errors import BadCounts, BadCourses, Open
from needforth.makers import Maker
from needforth.running import run
from needforth.webs import Web
from needforth.webtext import read_web
from rowing import needs_on, slow_numbers, some_counts, some_courses, within_cap

LINES = ("given g", "given h", "row x of g: begin; way 0 give; way 0 0 give", "row y of y x: begin give; way 0 1 give")


class Numbers(unittest.TestCase):
    def test_example(self):
        web = read_web(("given g", "row x of g: begin; way 0 give; way 0 0 give", "row y of y: begin give; way 0 give"))
        self.assertEqual(run(web, (), (("g", 5),)), (("x", 5), ("y", None)))
        self.assertEqual(run(web, (("x", ((0, 1), (1,))),), (("g", 5),)), (("x", 3), ("y", None)))

    def numbers(self, lines, courses=(), counts=()):
        return run(read_web(lines), courses, counts)

    def test_counts(self):
        self.assertEqual(self.numbers(LINES), (("x", None), ("y", None)))
        self.assertEqual(self.numbers(LINES, (), (("h", 0),)), (("x", None), ("y", None)))
        self.assertEqual(self.numbers(LINES, (), (("g", 0),)), (("x", 0), ("y", 1)))
        self.assertEqual(self.numbers(LINES, (), (("g", 2500), ("h", 3))), (("x", 2500), ("y", 2501)))
        great = 10 ** 60 - 1
        self.assertEqual(self.numbers(LINES, (("x", ((), (1,))),), (("g", great),)), (("x", great // 2), ("y", great // 2 + 1)))

    def test_waiting(self):
        wanted = (
            (("row x of x: begin; way 0 give",), 0), (("row x of x: begin give; way 0 give",), None),
            (("row x of x: begin give give; way 0 0 give give",), None), (("row x of x: begin give; way 0 0 give give",), 1),
            (("row x of x: begin give; way give 0 0",), 3), (("row x of x: begin give give give; way 0 0 give",), 5),
            (("row x of x: begin 0 give; way give",), 0), (("row x of x: begin; way 0",), 0),
            (("row x of x: begin give give; way 0",), 2), (("row x of x: begin; way give",), None),
            (("given g", "row x of g: begin give; way 0"), 1), (("given g", "row x of g: begin 0 0 give; way give"), None))
        for lines, number in wanted:
            self.assertEqual(self.numbers(lines), (("x", number),), lines)

    def test_rings(self):
        ring = ("row x of y: begin; way 0 give", "row y of z: begin; way 0 0 give give", "row z of x: begin give; way 0 give")
        self.assertEqual(self.numbers(ring), (("x", 0), ("y", 0), ("z", 1)))
        ring = ring[:2] + ("row z of x: begin give give; way 0 give",)
        self.assertEqual(self.numbers(ring), (("x", None), ("y", None), ("z", None)))
        self.assertEqual(self.numbers(ring + ("row w of w x: begin; way 0 1 give",))[3], ("w", 0))
        lines = ("row x of y: begin; way 0 0 0 give give", "row y of x: begin give give give give give give; way 0 give")
        self.assertEqual(self.numbers(lines), (("x", 8), ("y", 14)))

    def test_far_pieces(self):
        # each round takes a piece more than it gives from the 599 that the beginning gave ahead
        gives, takes = " give" * 299, " 0" * 300
        lines = ("row x of x: begin" + gives * 2 + " give; way" + takes + gives,)
        self.assertEqual(self.numbers(lines), (("x", 599 + 300 * 299),))
        lines = ("row x of y: begin" + gives * 2 + " give; way" + takes + gives, "row y of x: begin; way 0 give")
        self.assertEqual(self.numbers(lines), (("x", 599 + 300 * 299), ("y", 599 + 300 * 299)))

    def test_courses(self):
        web = read_web(("given g", "row x of g: begin; way 0 give; way 0; way give"))
        for course, number in ((((), (1,)), 0), (((0, 0, 2), (1,)), 3), (((), (1, 0)), 3), (((1,), (2,)), None),
                               (((1, 1, 1, 1, 1, 1, 1), (2,)), 0), (((0,) * 200, (0,) * 40), 6), (((2, 1), (1, 1)), 1)):
            self.assertEqual(run(web, (("x", course),), (("g", 6),)), (("x", number),), course)
        self.assertEqual(run(web, [["x", [[0], [1]]]], [["g", 6]]), (("x", 1),))
        self.assertEqual(run(counts=(("g", 6),), courses=(("x", ((0,), (1,))),), web=web), (("x", 1),))

    def test_any(self):
        chance = random.Random(221)
        many = 0
        for _ in range(150):
            web = some_web(chance, False)
            courses, counts = some_courses(chance, web), some_counts(chance, web)
            found = run(web, courses, counts)
            self.assertEqual([row for row, _ in found], list(web))
            if within_cap([number for _, number in found]):
                self.assertEqual(dict(found), slow_numbers(web, needs_on(web, courses), counts), (web.rows, courses, counts))
                many += 1
        self.assertGreater(many, 100)

    def test_good_counts(self):
        # whatever the numbers are, each one is the greatest good count
        chance = random.Random(222)
        for _ in range(100):
            web = some_web(chance, False)
            courses, counts = dict(some_courses(chance, web)), dict((given, 10 ** 50 + 7) for given in web.givens)
            numbers = dict(run(web, tuple(courses.items()), tuple(counts.items())))
            for row, maker, sources in web.rows:
                needs = [maker.need(inlet, courses.get(row, ((), (0,)))) for inlet in range(maker.inlets)]
                ready = [counts.get(source, numbers.get(source)) for source in sources]
                good = [all(need(m) is not None and (there is None or need(m) <= there)
                            for need, there in zip(needs, ready)) for m in self.probes(numbers[row])]
                self.assertEqual(good, [True, True] if numbers[row] is None else [True, False])

    def probes(self, number):
        return (1, 10 ** 30) if number is None else (number, number + 1)


class Wrong(unittest.TestCase):
    def setUp(self):
        self.web = read_web(LINES)

    def test_open(self):
        web = Web(("g",), (("x", Maker(1, (), (("give",),)), ("g",)), ("y", "b", ("x",)), ("z", "a", ("x",))))
        self.assertEqual(raised(Open, run, web, None, None), {"name": "b"})

    def test_courses(self):
        good = ((), (0,))
        for courses in (None, "x", 3, {"x": good}, self.web):
            self.assertEqual(raised(BadCourses, run, self.web, courses, None), {"number": -1})
        for pair in (None, "x", (), ("x",), ("x", good, good), ("g", good), ("z", good), (None, good), (["x"], good),
                     (True, good), ("x", None), ("x", ((), ())), ("x", ((0,), (2,))), ("x", ((True,), (0,))),
                     ("x", ((), (False,))), ("x", ((0,) * 201, (0,))), ("x", ((), (0,) * 41)), ("x", ((-1,), (0,))),
                     ("x", (0,)), ("x", ((), 0)), ("x", "ab"), ("y", ((), (1,)))):
            self.assertEqual(raised(BadCourses, run, self.web, (pair,), None), {"number": 0}, pair)
            if not pair or pair[0] != "y":
                self.assertEqual(raised(BadCourses, run, self.web, [("y", good), pair, None], None), {"number": 1}, pair)
        self.assertEqual(raised(BadCourses, run, self.web, (("x", good), ("y", good), ["x", good])), {"number": 2})

    def test_counts(self):
        for counts in (None, "g", 3, {"g": 1}):
            self.assertEqual(raised(BadCounts, run, self.web, (), counts), {"number": -1})
        for pair in (None, "g1", (), ("g",), ("g", 1, 1), ("x", 1), ("z", 1), ("g", None), ("g", -1), ("g", True), ("g", "1"),
                     (None, 1), (["g"], 1), (False, 1), ("g", (1,))):
            self.assertEqual(raised(BadCounts, run, self.web, (), (pair,)), {"number": 0}, pair)
            self.assertEqual(raised(BadCounts, run, self.web, (), [("h", 1), pair, None]), {"number": 1}, pair)
        self.assertEqual(raised(BadCounts, run, self.web, (), (("g", 1), ("h", 1), ("g", 1))), {"number": 2})


if __name__ == "__main__":
    unittest.main()
