"""Sayings and facts by chance, and what each verdict about them must keep."""

from needforth.everywhere import everywhere
from needforth.facts import keep
from needforth.terms import names_of, samples_of, value_of
from needforth.trees import judge_tree

PAIRED = ("behind",) * 6 + ("both", "either") * 2 + ("under", "over")


def some_term(chance, samples, names, shift):
    """A term with at most so many samples."""
    if samples <= 1:
        return chance.choice(names) if chance.random() < 0.8 else ("shift", chance.randint(-shift, shift))
    if chance.random() < 0.1:
        return ("turn", some_term(chance, samples // 2, names, shift))
    word = chance.choice(PAIRED)
    one = chance.randint(1, samples - 1)
    other = samples - one
    if word == "under":
        one = max(1, one // 2)
    if word == "over":
        other = max(1, other // 2)
    return (word, some_term(chance, one, names, shift), some_term(chance, other, names, shift))


def some_saying(chance, samples, names, shift):
    while True:
        one = chance.randint(1, samples - 1)
        saying = (some_term(chance, one, names, shift), some_term(chance, samples - one, names, shift))
        if samples_of(saying[0]) + samples_of(saying[1]) <= 12:
            return saying


def some_facts(chance, many, names, shift):
    found = []
    for _ in range(many):
        k = ("shift", chance.randint(-shift, shift))
        found.append(chance.choice([(chance.choice(names), chance.choice(names)), (chance.choice(names), k),
                                    (k, chance.choice(names))]))
    return tuple(found)


def names_asked(saying, facts):
    found = set(names_of(saying[0]) + names_of(saying[1]))
    return sorted(found | {term for fact in facts for term in fact if isinstance(term, str)})


def check_verdict(case, saying, facts):
    """Ask, check whatever the document says of the verdict, and return it."""
    told = everywhere(saying, facts)
    where = (saying, facts)
    case.assertIs(bool(told), told.holds, where)
    if told.holds:
        case.assertEqual([told.place, told.tables], [None, None], where)
        case.assertIs(judge_tree(saying, facts, told.tree), True, where)
        # a cap is one bound more, and changes the number of no clause
        case.assertIs(judge_tree(saying, facts, told.tree, 5), True, where)
        return told
    case.assertIs(judge_tree(saying, facts, told.tree, told.place - 1), True, where)
    case.assertEqual([name for name, _ in told.tables], names_asked(saying, facts), where)
    case.assertTrue(all(table.steady for _, table in told.tables), where)
    case.assertTrue(keep(told.tables, facts), where)
    sides = [value_of(term, told.tables) for term in saying]
    case.assertGreater(sides[0](told.place), sides[1](told.place), where)
    case.assertTrue(all(sides[0](n) <= sides[1](n) for n in range(told.place)), where)
    return told

