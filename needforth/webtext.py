"""Webs as lines of text."""

from needforth.errors import BadLine, BadMaker, TooMany
from needforth.kinds import is_row
from needforth.letters import FIGURES
from needforth.makers import Maker
from needforth.webs import MOST_GIVENS, MOST_ROWS, Web, are_sources, is_row_name, is_unknown


def text_of_deeds(word, deeds):
    """A word and the deeds behind it."""
    return " ".join([word] + [str(deed) for deed in deeds])


def text_of_row(row):
    """The line of a row."""
    name, maker, sources = row
    start = text_of_deeds(f"row {name} of", sources)
    if isinstance(maker, str):
        return f"{start} by {maker}"
    parts = [text_of_deeds("begin", maker.begin)] + [text_of_deeds("way", way) for way in maker.ways]
    return f"{start}: " + "; ".join(parts)


def write_web(web):
    """The lines of a web."""
    return tuple([f"given {name}" for name in web.givens] + [text_of_row(row) for row in web.rows])


def deed_of(word):
    """The deed of a word; what is no deed of any maker is left as it is."""
    return int(word) if len(word) == 1 and word in FIGURES else word


def deeds_behind(part, wanted):
    """The deeds of a part behind a blank and the wanted word, None if it does not begin so."""
    words = part.split(" ")
    if words[:2] != ["", wanted]:
        return None
    return [deed_of(word) for word in words[2:]]


def maker_in(text, inlets):
    """The maker that the text behind a colon tells, None if it tells none."""
    parts = text.split(";")
    begin = deeds_behind(parts[0], "begin")
    ways = [deeds_behind(part, "way") for part in parts[1:]]
    try:
        return Maker(inlets, begin, ways)
    except (BadMaker, TooMany):
        return None


def row_of(line):
    """The row that a line tells, None if it tells none."""
    start, colon, rest = line.partition(":")
    words = start.split(" ")
    sources = words[3:]
    if not colon:
        sources = words[3:-2]
    if words[0] != "row" or words[2:3] != ["of"] or not is_row_name(words[1]) or not are_sources(sources, None):
        return None
    if colon:
        maker = maker_in(rest, len(sources))
    else:
        maker = words[-1] if words[-2] == "by" and is_unknown(words[-1]) else None
    if maker is None:
        return None
    return words[1], maker, sources


def given_of(line):
    """The given that a line tells, None if it tells none."""
    words = line.split(" ")
    if len(words) == 2 and words[0] == "given" and is_row_name(words[1]):
        return words[1]
    return None


def are_lines(thing):
    """Whether a thing is a tuple of as many strings as a web may have lines."""
    if not is_row(thing) or not 1 <= len(thing) <= MOST_GIVENS + MOST_ROWS:
        return False
    return all([isinstance(line, str) for line in thing])


def read_web(lines):
    """The web of its lines; the number of a line is that which BadLine bears."""
    if not are_lines(lines):
        raise BadLine(-1)
    givens = []
    rows = []
    for number, line in enumerate(lines):
        given = given_of(line)
        row = row_of(line)
        if row is not None:
            rows.append(row)
        elif given is not None and not rows:
            givens.append(given)
        else:
            raise BadLine(number)
    return Web(givens, rows)
