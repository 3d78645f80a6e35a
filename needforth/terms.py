"""The names, the samples and the tables of terms."""

from needforth.errors import BadTables, Missing
from needforth.kinds import is_pair, is_row
from needforth.residues import over, under
from needforth.tables import Table
from needforth.termforms import check_term, is_name, terms_within


def names_in(term):
    """The names in a right term, each once, in the order in which they first stand in its text."""
    found = {}
    pending = [term]
    while pending:
        part = pending.pop()
        if isinstance(part, str):
            found[part] = True
        else:
            pending.extend(terms_within(part)[::-1])
    return tuple(found)


def names_of(term):
    """The names in a term, each once, in the order in which they first stand in its text."""
    check_term(term)
    return names_in(term)


def samples_in(term):
    """The number of the samples of a right term."""
    many = [samples_in(part) for part in terms_within(term)]
    if not many:
        return 1
    if term[0] == "turn":
        return 2 * many[0]
    if term[0] == "under":
        return 2 * many[0] + many[1]
    if term[0] == "over":
        return many[0] + 2 * many[1]
    return many[0] + many[1]


def samples_of(term):
    """The number of the samples of a term."""
    check_term(term)
    return samples_in(term)


def is_told(thing):
    """Whether a thing is a pair of a name and a table."""
    return is_pair(thing) and is_name(thing[0]) and isinstance(thing[1], Table)


def tables_by_name(tables):
    """The dict of the told tables, or the error that is due for what is passed as these pairs."""
    if not is_row(tables):
        raise BadTables(-1)
    found = {}
    for number, pair in enumerate(tables):
        if not is_told(pair) or pair[0] in found:
            raise BadTables(number)
        found[pair[0]] = pair[1]
    return found


def check_told(names, told):
    """Raise the error that is due if one of the names is not there."""
    for name in names:
        if name not in told:
            raise Missing(name)


def table_in(term, told):
    """The table of a right term all names of which are told."""
    if isinstance(term, str):
        return told[term]
    if term[0] == "shift":
        return Table.shift(term[1])
    first = table_in(term[1], told)
    if term[0] == "turn":
        return ~first
    return put_together(term[0], first, table_in(term[2], told))


def put_together(word, first, second):
    """The table that a word of two terms makes of their tables."""
    if word == "behind":
        return first * second
    if word == "both":
        return first & second
    if word == "either":
        return first | second
    if word == "under":
        return under(first, second)
    return over(first, second)


def value_of(term, tables):
    """The table of a term with these tables for its names."""
    check_term(term)
    told = tables_by_name(tables)
    check_told(names_in(term), told)
    return table_in(term, told)
