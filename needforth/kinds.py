"""What kind of thing is passed."""


def is_integer(thing):
    """Whether a thing is an integer; True and False are none."""
    return isinstance(thing, int) and not isinstance(thing, bool)


def is_count(thing):
    """Whether a thing is an integer from 0."""
    return is_integer(thing) and thing >= 0


def is_row(thing):
    """Whether a thing is a tuple, or a list in the place of one."""
    return isinstance(thing, (tuple, list))


def is_pair(thing):
    """Whether a thing is a tuple of two things."""
    return is_row(thing) and len(thing) == 2


def is_climb(thing):
    """Whether a thing is a tuple of counts that do not fall."""
    if not is_row(thing):
        return False
    last = 0
    for entry in thing:
        if not is_integer(entry) or entry < last:
            return False
        last = entry
    return True
