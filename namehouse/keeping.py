"""Keepers: they hold a zone, change it and remember how."""

from namehouse.changes import behind_change, can_be_done, holds, is_change, next_version
from namehouse.errors import BadChange, BadZone
from namehouse.lookup import top_of
from namehouse.records import is_version, ordered
from namehouse.zones import Zone

MOST_STEPS = 5


class Keeper:
    """Holds a zone and its last five changes."""

    def __init__(self, zone):
        self._origin = zone.origin
        self._held = zone.records()
        self._steps = []

    def version(self):
        """The version of the zone's top."""
        return top_of(self._held)[3][0]

    def zone(self):
        """The zone as it is now."""
        return Zone(self._origin, self._held)

    def change(self, wishes, takes, puts):
        """Takes and puts records if all wishes hold; whether they did."""
        if not is_change(wishes, takes, puts):
            raise BadChange("not the form of a change")
        if not all([holds(wish, self._held) for wish in wishes]):
            return False
        if not can_be_done(self._held, takes, puts):
            raise BadChange("what is taken doesn't stand, or what is put does")
        first = self.version()
        last = next_version(first)
        self._held = self._zone_of(behind_change(self._held, takes, puts, last)).records()
        self._steps = self._steps[1 - MOST_STEPS:] + [(first, last, ordered(takes), ordered(puts))]
        return True

    def _zone_of(self, records):
        try:
            return Zone(self._origin, records)
        except BadZone:
            raise BadChange("no zone comes of it") from None

    def since(self, version):
        """The remembered steps from a version to this one, or None."""
        if not is_version(version):
            raise BadChange("no version")
        if version == self.version():
            return []
        froms = [step[0] for step in self._steps]
        if version not in froms:
            return None
        return [(first, last, list(taken), list(put)) for first, last, taken, put in self._steps[froms.index(version):]]
