"""Zones for the tests."""

from namehouse.zones import Zone

FIRM = ("firm",)
TOP = (FIRM, "top", 60, (7, 20))
KEEPER = (FIRM, "keeper", 60, ("ns", "firm"))


def at(text):
    """The name of a text without the dot at its end: "www.firm", or "" of none."""
    return tuple(text.split(".")) if text else ()


def rec(name, kind, data, live=5):
    """A record; its name, and its data where they are a name, told as at() takes them."""
    return at(name), kind, live, at(data) if kind in ("keeper", "other") else data


def firm(*records):
    """A zone at firm. of a top, a keeper and these records."""
    return Zone(FIRM, [TOP, KEEPER] + list(records))
