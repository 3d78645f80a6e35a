"""Tables as texts of one line."""

from needforth.errors import BadText
from needforth.letters import FIGURES
from needforth.tables import Table

MOST_FIGURES = 60


def write_table(table):
    """The text of the plain form of a table."""
    words = [str(entry) for entry in table.head]
    if not table.loop:
        words.append("never")
    else:
        words.append("then")
        words.extend([str(entry) for entry in table.loop])
        words.extend(["up", str(table.rise)])
    return " ".join(words)


def is_number(word):
    """Whether a word is a count in figures, without leading zeros and not too long."""
    if not word or len(word) > MOST_FIGURES or word[0] == "0" and len(word) > 1:
        return False
    return len([figure for figure in word if figure in FIGURES]) == len(word)


def climb_at(words, at, least):
    """The numbers that stand from a word on, each at least the one ahead of it, and the first one at least so much."""
    found = []
    for word in words[at:]:
        if not is_number(word) or int(word) < least:
            break
        least = int(word)
        found.append(least)
    return found


def check_word(words, at, wanted):
    """Raise the error that is due if the word at a number is not the wanted one."""
    if at == len(words) or words[at] != wanted:
        raise BadText(at)


def check_end(words, at):
    """Raise the error that is due if there are more words than so many."""
    if len(words) > at:
        raise BadText(at)


def read_table(text):
    """The table of a text; the numbers of the words are those that BadText bears."""
    if not isinstance(text, str):
        raise BadText(-1)
    words = text.split(" ")
    head = climb_at(words, 0, 0)
    at = len(head)
    if at < len(words) and words[at] == "never":
        check_end(words, at + 1)
        return Table(head)
    check_word(words, at, "then")
    loop = climb_at(words, at + 1, head[-1] if head else 0)
    at = at + 1 + len(loop)
    if not loop:
        raise BadText(at)
    check_word(words, at, "up")
    rise = climb_at(words, at + 1, loop[-1] - loop[0])
    if not rise:
        raise BadText(at + 1)
    check_end(words, at + 2)
    return Table(head, loop, rise[0])
