"""What terms and sayings are, and the errors of things that are none."""

from needforth.errors import BadSaying, BadTerm, TooMany
from needforth.kinds import is_integer, is_pair, is_row
from needforth.letters import FIGURES, LETTERS

MOST_PARTS = 60
LONGEST_NAME = 3
LONGEST_SHIFT = 9

# how many terms stand behind each word
TERMS_BEHIND = {"turn": 1, "behind": 2, "both": 2, "either": 2, "under": 2, "over": 2}


def is_name(thing):
    """Whether a thing is a name in terms."""
    if not isinstance(thing, str) or not 1 <= len(thing) <= LONGEST_NAME or thing[0] not in LETTERS:
        return False
    return all([sign in LETTERS or sign in FIGURES for sign in thing])


def is_shift(thing):
    """Whether a thing is the term of a shift."""
    return (is_pair(thing) and thing[0] == "shift" and is_integer(thing[1])
            and -LONGEST_SHIFT <= thing[1] <= LONGEST_SHIFT)


def terms_within(thing):
    """The things in a term that must be terms themselves, None if it cannot be a term whatever they are."""
    if is_name(thing) or is_shift(thing):
        return ()
    if not is_row(thing) or not thing or not isinstance(thing[0], str):
        return None
    if len(thing) - 1 != TERMS_BEHIND.get(thing[0]):
        return None
    return thing[1:]


def parts_of(thing):
    """The number of the parts of a term, None for a thing that is no term."""
    many = 0
    pending = [thing]
    while pending:
        within = terms_within(pending.pop())
        if within is None:
            return None
        many = many + 1
        pending.extend(within)
    return many


def check_term(term):
    """Raise the error that is due for a thing that is passed as a term."""
    parts = parts_of(term)
    if parts is None:
        raise BadTerm(term)
    if parts > MOST_PARTS:
        raise TooMany("part")


def check_saying(saying):
    """Raise the error that is due for a thing that is passed as a saying."""
    if not is_pair(saying):
        raise BadSaying(saying)
    parts = [parts_of(term) for term in saying]
    for term, many in zip(saying, parts):
        if many is None:
            raise BadTerm(term)
    if max(parts) > MOST_PARTS:
        raise TooMany("part")
