"""Pairs of names and things, no name twice."""

from needforth.kinds import is_pair, is_row


def first_wrong(pairs, is_right):
    """The number of the first thing that is no right pair or whose name has come before, None if there is none.

    It is -1 if the pairs are no tuple. Whatever is right for `is_right` has a string as its name.
    """
    if not is_row(pairs):
        return -1
    found = {}
    for number, pair in enumerate(pairs):
        if not is_pair(pair) or not is_right(pair[0], pair[1]) or pair[0] in found:
            return number
        found[pair[0]] = True
    return None


def told_by_name(pairs):
    """The dict of what right pairs tell."""
    return {name: thing for name, thing in pairs}
