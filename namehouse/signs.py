"""The signs of texts, and their places in a letter's row."""

# The percent sign, which no text has, would stand between these two: at place 5.
_LOW_SIGNS = " !\"#$"
_HIGH_SIGNS = "&'()*+,-./0123456789:;<=>?@ABCDEFGHIJKLMNOPQRSTUVWXYZ[\\]^_`abcdefghijklmnopqrstuvwxyz{|}~"
_FIRST_HIGH = 6


def is_sign(sign):
    """Whether one sign may stand in a text."""
    return sign in _LOW_SIGNS or sign in _HIGH_SIGNS


def place_of_sign(sign):
    """The place of a text's sign: the blank's is 0."""
    return ord(sign) - ord(" ")


def sign_at(place):
    """The sign at a place from 0 on, or None where no text's sign has it."""
    if place < len(_LOW_SIGNS):
        return _LOW_SIGNS[place]
    if _FIRST_HIGH <= place < _FIRST_HIGH + len(_HIGH_SIGNS):
        return _HIGH_SIGNS[place - _FIRST_HIGH]
    return None
