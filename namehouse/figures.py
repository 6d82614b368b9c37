"""Whole numbers written by figures."""

FIGURES = "0123456789"
MOST_FIGURES = 20


def number_of(text):
    """The number that a text of 1 to 20 figures, no noughts ahead, stands for, or None."""
    if not 1 <= len(text) <= MOST_FIGURES or not all([sign in FIGURES for sign in text]):
        return None
    if text[0] == "0" and text != "0":
        return None
    return int(text)
