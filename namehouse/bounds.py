"""Whole numbers, and such within bounds."""


def is_whole(thing):
    """Whether thing is a whole number."""
    # True and False are ints to Python, but no whole numbers here.
    return isinstance(thing, int) and not isinstance(thing, bool)


def within(thing, low, high):
    """Whether thing is a whole number from low to high."""
    return is_whole(thing) and low <= thing <= high
