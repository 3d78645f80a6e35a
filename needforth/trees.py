"""Trees of cases, and whether one is right for a sheet."""

from needforth.kinds import is_count, is_integer, is_row
from needforth.sheets import Sheet

SPLIT_ENTRIES = 4
RING_ENTRIES = 2


def is_bound(thing):
    """Whether a thing has the form of a bound."""
    return is_row(thing) and len(thing) == 3 and all([is_integer(entry) for entry in thing])


def is_ring(node):
    """Whether a thing has the form of a node that is a ring."""
    if not is_row(node) or len(node) != RING_ENTRIES or node[0] != "ring":
        return False
    return is_row(node[1]) and len(node[1]) > 0 and all([is_bound(bound) for bound in node[1]])


def is_split(node, number, nodes, clauses):
    """Whether a thing has the form of a split that is the node with this number, with so many nodes and clauses."""
    if not is_row(node) or len(node) != SPLIT_ENTRIES or node[0] != "split":
        return False
    if not is_count(node[1]) or node[1] >= clauses:
        return False
    return all([is_integer(below) and number < below < nodes for below in node[2:]])


def is_tree(thing, clauses):
    """Whether a thing has the form of a tree of cases for so many clauses."""
    if not is_row(thing) or not thing:
        return False
    # node 0 is named by no split, and each other one by just one
    named = [True] + [False] * (len(thing) - 1)
    for number, node in enumerate(thing):
        if not is_ring(node):
            if not is_split(node, number, len(thing), clauses):
                return False
            for below in node[2:]:
                if named[below]:
                    return False
                named[below] = True
    return all(named)


def closes(bounds):
    """Whether bounds lead round and cannot hold together."""
    point = bounds[-1][1]
    total = 0
    for first, second, more in bounds:
        if first != point:
            return False
        point = second
        total = total + more
    return total < 0


def rings_right(tree, sheet):
    """Whether all rings of a thing that has the form of a tree are right."""
    held = {bound: 1 for bound in sheet.bounds}
    pending = [(0, None, True)]
    while pending:
        number, bound, enters = pending.pop()
        if not enters:
            held[bound] = held[bound] - 1
            continue
        if bound is not None:
            held[bound] = held.get(bound, 0) + 1
            # behind all that lies below this node it is assumed no more
            pending.append((number, bound, False))
        node = tree[number]
        if node[0] == "split":
            first, second = sheet.clauses[node[1]]
            pending.append((node[3], second, True))
            pending.append((node[2], first, True))
        elif not closes(node[1]) or not all([held.get(tuple(used), 0) > 0 for used in node[1]]):
            return False
    return True


def judge_tree(saying, facts, tree, cap=None):
    """Whether a tree is right for the sheet of the saying with these facts and this cap."""
    sheet = Sheet(saying, facts, cap)
    return is_tree(tree, len(sheet.clauses)) and rings_right(tree, sheet)
