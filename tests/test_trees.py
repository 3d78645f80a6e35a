"""[14]: trees of cases, right ones and wrong ones."""

import random
import unittest

from asking import some_facts, some_saying
from helpers import raised
from needforth.errors import AtOdds, BadCount, BadFact, BadSaying
from needforth.everywhere import everywhere
from needforth.sheets import Sheet
from needforth.tables import Table
from needforth.termtext import read_saying
from needforth.trees import judge_tree

F = ("f", "f")
RING = ("ring", ((2, 2, -1),))


def slow_judge(sheet, tree):
    """Whether a tree is right, by the words of [14]; only what has the form of nodes is passed."""
    above = {0: None}
    for k, node in enumerate(tree):
        if node[0] == "split":
            for side in (0, 1):
                below = node[2 + side]
                if not k < below < len(tree) or below in above or not 0 <= node[1] < len(sheet.clauses):
                    return False
                above[below] = (k, sheet.clauses[node[1]][side])
    if len(above) != len(tree):
        return False
    for k, node in enumerate(tree):
        if node[0] == "ring":
            held = list(sheet.bounds)
            while above[k] is not None:
                k, bound = above[k]
                held.append(bound)
            bounds = node[1]
            if not all(bound in held for bound in bounds) or sum(bound[2] for bound in bounds) >= 0:
                return False
            if not all(one[1] == other[0] for one, other in zip(bounds, bounds[1:] + bounds[:1])):
                return False
    return True


def some_change(chance, tree, clauses, points):
    """A tree in which a clause, a child or a bound is exchanged, or with a node more or less."""
    nodes = [list(node) for node in tree]
    k = chance.randrange(len(nodes))
    kind = chance.randint(0, 5)
    if kind == 0 and len(nodes) > 1:
        del nodes[k]
    elif kind == 1:
        nodes.append(["ring", tree[-1][1]])
    elif kind == 2:
        other = chance.randrange(len(nodes))
        nodes[k], nodes[other] = nodes[other], nodes[k]
    elif nodes[k][0] == "split":
        at = chance.randint(1, 3)
        nodes[k][at] = chance.randrange(clauses if at == 1 else len(nodes))
        if kind == 3:
            nodes[k][2:] = list(tree[k][:1:-1])
    else:
        bounds = list(nodes[k][1])
        at = chance.randrange(len(bounds))
        bound = list(bounds[at])
        turn = chance.randint(0, 2)
        bound[turn] = chance.randrange(points) if turn < 2 else bound[2] + chance.choice([-1, 1])
        bounds[at] = tuple(bound)
        nodes[k][1] = tuple(bounds[1:] if kind == 3 and len(bounds) > 1 else bounds)
    return tuple(tuple(node) for node in nodes)


class Judging(unittest.TestCase):
    def test_examples(self):
        self.assertIs(judge_tree(F, (), (RING,)), True)
        self.assertIs(judge_tree(("f", "g"), (), (RING,)), False)
        self.assertIs(judge_tree(saying=F, facts=(), tree=[["ring", [[2, 2, -1]]]], cap=None), True)

    def test_split(self):
        saying = ("f", ("either", "f", "f"))
        # the bounds are those of 0, 1, f at 1, and the lesser one; the clause 1 tells that that one is reached
        sheet = Sheet(saying)
        self.assertEqual(sheet.clauses[1], ((2, 3, 0), (2, 3, 0)))
        ring = ("ring", ((2, 3, 0), (3, 2, -1)))
        self.assertTrue(judge_tree(saying, (), (("split", 1, 1, 2), ring, ring)))
        self.assertTrue(judge_tree(saying, (), (("split", 1, 2, 1), ring, ring)))
        self.assertTrue(judge_tree(saying, (), (("split", 0, 1, 2), ("split", 1, 3, 4), ("split", 1, 5, 6),
                                                ring, ring, ring, ring)))
        self.assertTrue(judge_tree(saying, (), (("split", 1, 1, 4), ("split", 0, 2, 3), ring, ring, ring)))
        for tree in ((ring,), (("split", 0, 1, 2), ring, ring), (("split", 1, 1, 1), ring),
                     (("split", 1, 1, 2), ring, ring, ring), (("split", 1, 1, 2), ring),
                     (("split", 1, 0, 1), ring), (ring, ("split", 1, 2, 3), ring, ring), (ring, ring),
                     (("split", 1, 1, 2), ("split", 1, 2, 3), ring, ring), (("split", 1, 1, 2), ring, RING),
                     (("split", 2, 1, 2), ring, ring), (("split", -1, 1, 2), ring, ring),
                     (("split", 1, -1, -2), ring, ring), (("split", 1, 1, 3), ring, ring),
                     (("split", 0, 1, 2), ("split", 1, 3, 4), ring, ring, ring)):
            self.assertIs(judge_tree(saying, (), tree), False, tree)

    def test_what_is_assumed_holds_below_alone(self):
        saying = read_saying("f & g <= g & f")
        sheet = Sheet(saying)
        tree = everywhere(saying).tree
        self.assertTrue(judge_tree(saying, (), tree))
        self.assertTrue(slow_judge(sheet, tree))
        splits = [node for node in tree if node[0] == "split"]
        self.assertGreater(len(splits), 0)
        exchanged = tuple((node[0], node[1], node[3], node[2]) if node[0] == "split" else node for node in tree)
        self.assertFalse(judge_tree(saying, (), exchanged))

    def test_rings(self):
        saying = (("shift", 2), ("shift", 1))
        # 2 is the point of +2 and 3 that of +1; 3 is at most 2 less one
        self.assertEqual(Sheet(saying).bounds[-1], (3, 2, -1))
        good = ("ring", ((3, 2, -1), (2, 1, 2), (1, 3, -1)))
        tree = (("split", 3, 1, 2), ("ring", ((1, 0, 0), (0, 1, -1))), good)
        self.assertIs(judge_tree(saying, (), tree), False)
        saying = (("shift", 0), ("shift", 1))
        self.assertEqual(Sheet(saying).bounds[1:], ((0, 2, 0), (2, 1, 1), (2, 1, -1)))
        tree = (("split", 1, 1, 2), ("ring", ((1, 0, 0), (0, 1, -1))), ("ring", ((1, 2, -1), (2, 1, -1))))
        self.assertIs(judge_tree(saying, (), tree), True)
        for ring in (((1, 2, -1),), ((2, 1, -1),), ((2, 1, 1), (1, 2, -1)), ((1, 2, -1), (2, 1, -2)),
                     ((1, 2, -1), (1, 2, -1)), ((2, 1, -1), (2, 1, -1)), ((0, 1, -1),), (), ((2, 1, -1), (1, 2))):
            self.assertIs(judge_tree(saying, (), tree[:2] + (("ring", ring),)), False, ring)
        for ring in (((2, 1, -1), (1, 2, -1)), ((1, 2, -1), (2, 1, -1)) * 3, [[1, 2, -1], [2, 1, -1]]):
            self.assertIs(judge_tree(saying, (), tree[:2] + (("ring", ring),)), True, ring)

    def test_no_trees(self):
        for thing in (None, 0, True, "", "ring", (), [], (None,), ("ring",), ((),), ("ring", ((2, 2, -1),)),
                      (("ring",),), (("ring", ()),), (("ring", ((2, 2, -1),), 1),), (("ring", (2, 2, -1)),),
                      (("rings", ((2, 2, -1),)),), ((None, ((2, 2, -1),)),), ((("ring",), ((2, 2, -1),)),),
                      (("ring", "abc"),), (("ring", ("abc",)),), (("ring", ((2, 2, "-1"),)),), (("ring", None),),
                      (("ring", ((2, 2, -1, 0),)),), (("ring", ((2, 2),)),), {0: RING}, (RING, RING), Table(()),
                      (Table(()),), ("ab",), (("ring", (([2], 2, -1),)),), (("split", 0, 1),), (("split", 0, 1, 2, 3),),
                      (("split", "0", 1, 2), RING, RING), (("split", 0, "1", 2), RING, RING),
                      (("split", 0, (1,), [2]), RING, RING), (("split", None, 1, 2), RING, RING), (["split"],), (1, RING)):
            self.assertIs(judge_tree(F, (), thing), False, thing)

    def test_true_is_no_integer(self):
        saying = (("shift", 0), ("shift", 1))
        tree = (("split", 1, 1, 2), ("ring", ((1, 0, 0), (0, 1, -1))), ("ring", ((1, 2, -1), (2, 1, -1))))
        self.assertTrue(judge_tree(saying, (), tree))
        for at, wrong in ((0, ("split", True, 1, 2)), (0, ("split", 1, True, 2)),
                          (1, ("ring", ((True, 0, 0), (0, 1, -1)))), (1, ("ring", ((1, 0, False), (0, 1, -1)))),
                          (1, ("ring", ((1, False, 0), (False, 1, -1)))), (2, ("ring", ((1, 2, -1), (2, True, -1)))),
                          (2, ("ring", ((1, 2, -1.0), (2, 1, -1)))), (0, ("split", 1.0, 1, 2))):
            changed = list(tree)
            changed[at] = wrong
            self.assertIs(judge_tree(saying, (), tuple(changed)), False, wrong)
        self.assertIs(judge_tree(saying, (), (("split", False, 1, 2),) + tree[1:]), False)

    def test_caps(self):
        saying = read_saying("+1 <= -3")
        capped = (("ring", ((1, 0, 0), (0, 1, -1))),)
        self.assertEqual([judge_tree(saying, (), capped, cap) for cap in (0, 1, None)], [True, False, False])
        self.assertEqual(everywhere(saying).tree, capped)
        bound = (("ring", ((1, 0, 3), (0, 1, -1))),)
        self.assertIs(judge_tree(saying, (), bound, 3), False)
        self.assertIs(judge_tree(F, (), (RING,), 10 ** 60 - 1), True)

    def test_errors_of_other_arguments(self):
        for tree in (None, (RING,), (("split", True, 1, 2),)):
            self.assertEqual(raised(BadSaying, judge_tree, 3, None, tree, -1), {"thing": 3})
            self.assertEqual(raised(BadFact, judge_tree, F, None, tree, -1), {"number": -1})
            odd = read_saying("f <= +0"), read_saying("+1 <= f")
            self.assertEqual(raised(AtOdds, judge_tree, F, odd, tree, -1), {"thing": "f"})
            self.assertEqual(raised(BadCount, judge_tree, F, (), tree, -1), {"thing": -1})

    def test_long_trees(self):
        # splits at the clause 0 again and again, each with a ring on one side
        many = 20000
        nodes = []
        for k in range(many):
            nodes += [("split", 0, 2 * k + 1, 2 * k + 2), RING]
        self.assertIs(judge_tree(F, (), nodes + [RING]), True)
        self.assertIs(judge_tree(F, (), nodes + [("ring", ((2, 0, 0), (0, 2, 0)))]), False)
        self.assertIs(judge_tree(F, (), nodes), False)


class Changed(unittest.TestCase):
    def test_trees_of_verdicts(self):
        chance = random.Random(141)
        judged = {True: 0, False: 0}
        for _ in range(150):
            names = ["f", "g"][:chance.randint(1, 2)]
            saying = some_saying(chance, chance.randint(3, 12), names, 4)
            facts = some_facts(chance, chance.randint(0, 3), names, 4)
            try:
                told = everywhere(saying, facts)
            except AtOdds:
                continue
            cap = None if told.holds else told.place - 1
            sheet = Sheet(saying, facts, cap)
            self.assertTrue(slow_judge(sheet, told.tree))
            for _ in range(20):
                tree = some_change(chance, told.tree, len(sheet.clauses) or 1, sheet.points)
                right = judge_tree(saying, facts, tree, cap)
                self.assertIs(right, slow_judge(sheet, tree), (saying, facts, tree))
                judged[right] += 1
        self.assertGreater(min(judged.values()), 50)


if __name__ == "__main__":
    unittest.main()
