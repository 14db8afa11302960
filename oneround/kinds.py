"""What kind of thing was handed in: asked of anything, before anything is done with it."""


def is_number(thing):
    """Whether a thing is a whole number; truths are none."""
    return isinstance(thing, int) and not isinstance(thing, bool)


def is_below(thing, many):
    """Whether a thing is one of the numbers from 0 that are below so many."""
    return is_number(thing) and 0 <= thing < many
