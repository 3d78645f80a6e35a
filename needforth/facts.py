"""Facts: sayings of names and shifts, and whether they hold for told tables."""

from needforth.comparing import below
from needforth.errors import BadFact, TooMany
from needforth.kinds import is_pair, is_row
from needforth.termforms import is_name, is_shift
from needforth.terms import check_told, table_in, tables_by_name

MOST_FACTS = 6


def is_fact(thing):
    """Whether a thing is a pair of names and shifts, at least one of them a name."""
    if not is_pair(thing):
        return False
    first, second = thing
    if is_shift(first):
        return is_name(second)
    return is_name(first) and (is_name(second) or is_shift(second))


def check_facts(facts):
    """Raise the error that is due for a thing that is passed as facts."""
    if not is_row(facts):
        raise BadFact(-1)
    for number, fact in enumerate(facts):
        if not is_fact(fact):
            raise BadFact(number)
    if len(facts) > MOST_FACTS:
        raise TooMany("fact")


def names_in_facts(facts):
    """The names in right facts, each once, in the order in which they first stand there."""
    found = {}
    for fact in facts:
        for term in fact:
            if isinstance(term, str):
                found[term] = True
    return tuple(found)


def keep(tables, facts):
    """Whether all facts hold for the tables of their names."""
    told = tables_by_name(tables)
    check_facts(facts)
    check_told(names_in_facts(facts), told)
    return all([below(table_in(first, told), table_in(second, told)).holds for first, second in facts])
