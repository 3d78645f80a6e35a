"""Terms and sayings as texts."""

from needforth.errors import TooMany
from needforth.scanning import BELOW, pieces_of
from needforth.termforms import MOST_PARTS, check_saying, check_term

WORDS = {"~": "turn", "*": "behind", "under": "under", "over": "over", "&": "both", "|": "either"}
SIGNS = {"behind": "*", "under": "under", "over": "over", "both": "&", "either": "|"}

# how closely a sign or a word binds
BINDING = {"~": 4, "*": 3, "under": 2, "over": 2, "&": 1, "|": 0}

# how closely a term must bind to stand without brackets ahead of a sign or word, and behind it
SIDES = {"*": (3, 4), "under": (3, 3), "over": (3, 3), "&": (1, 2), "|": (0, 1)}


def text_of(term, closeness):
    """The text of a right term, in brackets if it binds less closely than it must."""
    if isinstance(term, str):
        return term
    if term[0] == "shift":
        return f"{term[1]:+d}"
    if term[0] == "turn":
        return "~" + text_of(term[1], BINDING["~"])
    sign = SIGNS[term[0]]
    ahead, behind = SIDES[sign]
    text = f"{text_of(term[1], ahead)} {sign} {text_of(term[2], behind)}"
    if BINDING[sign] < closeness:
        return f"({text})"
    return text


def write_term(term):
    """The text of a term with the fewest brackets."""
    check_term(term)
    return text_of(term, 0)


def write_saying(saying):
    """The text of a saying with the fewest brackets."""
    check_saying(saying)
    return f"{text_of(saying[0], 0)} {BELOW} {text_of(saying[1], 0)}"


def join(terms, sign):
    """Put the last term, or the last two ones, together by a sign or a word."""
    second = terms.pop()
    if sign == "~":
        terms.append((WORDS[sign], second))
    else:
        terms.append((WORDS[sign], terms.pop(), second))


def join_closer(terms, waiting, closeness):
    """Put together what binds at least so closely, back to the last bracket that is open."""
    while waiting and waiting[-1] != "(" and BINDING[waiting[-1]] >= closeness:
        join(terms, waiting.pop())


def leaf_of(piece):
    """The term of a name or a shift."""
    if piece[0] in "+-":
        return ("shift", int(piece))
    return piece


def term_of(pieces):
    """The term that the pieces of a right text make."""
    check_parts(pieces)
    terms = []
    waiting = []
    for piece in pieces:
        if piece == "(" or piece == "~":
            waiting.append(piece)
        elif piece == ")":
            join_closer(terms, waiting, 0)
            waiting.pop()
        elif piece in BINDING:
            # of what binds equally closely, that which stands ahead is put together first
            join_closer(terms, waiting, BINDING[piece])
            waiting.append(piece)
        else:
            terms.append(leaf_of(piece))
    join_closer(terms, waiting, 0)
    return terms[0]


def check_parts(pieces):
    """Raise the error that is due if the pieces make more parts than a term has."""
    brackets = pieces.count("(") + pieces.count(")")
    if len(pieces) - brackets > MOST_PARTS:
        raise TooMany("part")


def read_term(text):
    """The term of a text; the places of the characters are those that BadText bears."""
    return term_of(pieces_of(text, False))


def read_saying(text):
    """The saying of a text; the places of the characters are those that BadText bears."""
    pieces = pieces_of(text, True)
    middle = pieces.index(BELOW)
    return term_of(pieces[:middle]), term_of(pieces[middle + 1:])
