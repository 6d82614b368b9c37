"""Whole numbers within bounds."""


def within(thing, low, high):
    """Whether thing is a whole number from low to high."""
    # True and False are ints to Python, but no whole numbers here.
    if not isinstance(thing, int) or isinstance(thing, bool):
        return False
    return low <= thing <= high
