"""What holds in a step, and what it shows of a name and a kind."""

from namehouse.errors import BadLetter, BadRecord
from namehouse.gaps import has_neither, is_let_be, leads_below, nearest_by, spans
from namehouse.lookup import data_of, named, of_kind, set_of
from namehouse.names import star_ahead
from namehouse.records import ordered
from namehouse.seals import is_right


class Holding:
    """A step's origin and records, and the keys by which a seal may be right."""

    def __init__(self, origin, records, keys):
        self._origin = origin
        self._records = ordered(records)
        self._keys = keys

    def numbers(self, name, kind):
        """The data of the set of a name and a kind, if it holds; else []."""
        return data_of(self._found(name, kind))

    def shown(self, name, kind):
        """What is shown of a name below the origin, and a kind; or None."""
        found = self._by_sets([name], name, kind)
        if found is not None:
            return found
        spanning = self._spanning(name, kind)
        if self._has_neither(name, kind) or any([leads_below(gap, name) for gap in spanning]):
            return ("empty",)
        return self._by_stars([star_ahead(nearest_by(gap, name)) for gap in spanning], name, kind)

    def _by_stars(self, stars, name, kind):
        """What the stars show of a name that isn't there."""
        found = self._by_sets(stars, name, kind)
        if found is not None:
            return found
        if any([self._has_neither(star, kind) for star in stars]):
            return ("empty",)
        if any([self._spanning(star, kind) for star in stars]):
            return ("lacking",)
        return None

    def _by_sets(self, places, name, kind):
        """The set of the kind, or else the other, that holds at one of these places, as the name's."""
        for place in places:
            records = self._found(place, kind)
            if records:
                return "good", named(records, name)
        for place in places:
            others = self._found(place, "other")
            if others:
                return "other", others[0][3]
        return None

    def _found(self, name, kind):
        """The set of a name and a kind, in order, if it holds; else []."""
        records = set_of(self._records, name, kind)
        seals = [seal for seal in set_of(self._records, name, "seal") if seal[3][1] in self._keys]
        if any([_is_right_of(records, seal) for seal in seals]):
            return records
        return []

    def _gaps(self, name, kind):
        """The gaps that hold, but those that say nothing of a name and a kind."""
        held = [gap for gap in of_kind(self._records, "gap") if self._found(gap[0], "gap")]
        return [gap for gap in held if not is_let_be(gap, name, kind)]

    def _has_neither(self, name, kind):
        """Whether a gap at a name tells that it has neither the kind nor other."""
        return any([gap[0] == name and has_neither(gap, kind) for gap in self._gaps(name, kind)])

    def _spanning(self, name, kind):
        """The gaps that span a name."""
        return [gap for gap in self._gaps(name, kind) if spans(gap, name, self._origin)]


def _is_right_of(records, seal):
    """Whether a seal is right of these, which may be no set."""
    try:
        return is_right(records, seal)
    except (BadRecord, BadLetter):
        # No set, one with two of one data, or one without a row: no seal is right of these.
        return False
