"""Gaps: what they span, and what they are let be for."""

from namehouse.names import below, name_rank


def spans(gap, name, origin):
    """Whether a gap spans a name, its zone having this origin."""
    onward = gap[3][0]
    if name_rank(gap[0]) >= name_rank(name):
        return False
    return onward == origin or name_rank(onward) > name_rank(name)


def leads_below(gap, name):
    """Whether a gap leads to a name below this one."""
    return below(gap[3][0], name)


def has_neither(gap, kind):
    """Whether neither the kind nor other is among a gap's kinds."""
    kinds = gap[3][1]
    return kind not in kinds and "other" not in kinds


def is_let_be(gap, name, kind):
    """Whether a gap says nothing of a name and a kind, for the zone hands on at it."""
    kinds = gap[3][1]
    if "keeper" not in kinds or "top" in kinds or not below(name, gap[0]):
        return False
    return name != gap[0] or kind != "trust"


def nearest_by(gap, name):
    """The nearest name above one that a gap spans, above or at one of the gap's two names."""
    above = name[1:]
    while not (below(gap[0], above) or leads_below(gap, above)):
        above = above[1:]
    return above
