"""Webs: given rows, and rows that makers make from rows."""

from needforth.errors import BadMakers, BadName, BadRow, Lacking, Missing, Open, Twice
from needforth.kinds import is_pair, is_row
from needforth.letters import LETTERS
from needforth.makers import MOST_INLETS, Maker

MOST_GIVENS = 3
MOST_ROWS = 6
LONGEST_NAME = 8
LONGEST_UNKNOWN = 2


def is_word(thing, longest):
    """Whether a thing is a string of letters that is not too long."""
    if not isinstance(thing, str) or not 1 <= len(thing) <= longest:
        return False
    return all([sign in LETTERS for sign in thing])


def is_row_name(thing):
    """Whether a thing is a name of a row or a given."""
    return is_word(thing, LONGEST_NAME)


def is_unknown(thing):
    """Whether a thing is a name of an unknown maker."""
    return is_word(thing, LONGEST_UNKNOWN)


def check_givens(givens):
    """Raise the error that is due for a thing that is passed as the givens."""
    if not is_row(givens) or len(givens) > MOST_GIVENS:
        raise BadName(-1)
    for number, name in enumerate(givens):
        if not is_row_name(name):
            raise BadName(number)


def are_sources(thing, inlets):
    """Whether a thing is a tuple of so many names; None lets there be as many as a maker may have inlets."""
    if not is_row(thing) or not 1 <= len(thing) <= MOST_INLETS:
        return False
    return inlets in (None, len(thing)) and all([is_row_name(name) for name in thing])


def is_made_row(thing, unknown):
    """Whether a thing is a row; the dict tells how many inlets the unknown makers of the rows ahead have."""
    if not is_row(thing) or len(thing) != 3 or not is_row_name(thing[0]):
        return False
    maker = thing[1]
    if isinstance(maker, Maker):
        return are_sources(thing[2], maker.inlets)
    return is_unknown(maker) and are_sources(thing[2], unknown.get(maker))


def check_rows(rows):
    """Raise the error that is due for a thing that is passed as the rows."""
    if not is_row(rows) or not 1 <= len(rows) <= MOST_ROWS:
        raise BadRow(-1)
    unknown = {}
    for number, row in enumerate(rows):
        if not is_made_row(row, unknown):
            raise BadRow(number)
        if isinstance(row[1], str):
            unknown[row[1]] = len(row[2])


def check_names(givens, rows):
    """Raise the error that is due if names of right givens and rows stand twice, or sources are lacking."""
    found = {}
    for name in list(givens) + [row[0] for row in rows]:
        if name in found:
            raise Twice(name)
        found[name] = True
    for row in rows:
        for source in row[2]:
            if source not in found:
                raise Lacking(source)


class Web:
    """Givens and rows; a row is a triple of its name, its maker or the name of an unknown one, and its sources."""

    def __init__(self, givens, rows):
        check_givens(givens)
        check_rows(rows)
        check_names(givens, rows)
        self.givens = tuple(givens)
        self.rows = tuple([(row[0], row[1], tuple(row[2])) for row in rows])
        self.names = tuple([row[0] for row in rows])

    def __eq__(self, other):
        return isinstance(other, Web) and self.givens == other.givens and self.rows == other.rows

    def __getitem__(self, name):
        for row in self.rows:
            if isinstance(name, str) and row[0] == name:
                return row[1], row[2]
        raise Lacking(name)

    def __contains__(self, name):
        return isinstance(name, str) and (name in self.givens or name in self.names)

    def __iter__(self):
        return iter(self.names)

    def __len__(self):
        return len(self.rows)

    @property
    def opens(self):
        """The names of the unknown makers, in the order in which they first stand."""
        found = []
        for row in self.rows:
            if isinstance(row[1], str) and row[1] not in found:
                found.append(row[1])
        return tuple(found)

    def filled(self, makers):
        """The web with makers in the place of the unknown ones."""
        told = makers_by_name(self, makers)
        for name in self.opens:
            if name not in told:
                raise Missing(name)
        return Web(self.givens, [(name, told[maker] if isinstance(maker, str) else maker, sources)
                                 for name, maker, sources in self.rows])


def inlets_of(web, unknown):
    """How many inlets an unknown maker has in a web, None if it is none of its unknown makers."""
    for row in web.rows:
        if isinstance(row[1], str) and row[1] == unknown:
            return len(row[2])
    return None


def fits_in(web, thing):
    """Whether a thing is a pair of the name of an unknown maker of a web and a maker that has its inlets."""
    if not is_pair(thing) or not isinstance(thing[0], str) or not isinstance(thing[1], Maker):
        return False
    return inlets_of(web, thing[0]) == thing[1].inlets


def makers_by_name(web, makers):
    """The dict of the told makers, or the error that is due for what is passed as these pairs."""
    if not is_row(makers):
        raise BadMakers(-1)
    found = {}
    for number, pair in enumerate(makers):
        if not fits_in(web, pair) or pair[0] in found:
            raise BadMakers(number)
        found[pair[0]] = pair[1]
    return found


def check_closed(web):
    """Raise the error that is due for a web with unknown makers where a closed one is wanted."""
    opens = web.opens
    if opens:
        raise Open(opens[0])
