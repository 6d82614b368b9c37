"""Copies: they hold a keeper's zone as it was at some version, and follow it."""

from namehouse.changes import behind_change
from namehouse.lookup import top_of
from namehouse.zones import Zone


class Copy:
    """Holds a zone that a keeper has or had."""

    def __init__(self, zone):
        self._origin = zone.origin
        self._held = zone.records()

    def version(self):
        """The version of the zone's top."""
        return top_of(self._held)[3][0]

    def zone(self):
        """The zone as the copy holds it."""
        return Zone(self._origin, self._held)

    def follow(self, keeper):
        """Takes what the keeper has changed since: "same" where nothing, else "steps" or "all"."""
        steps = keeper.since(self.version())
        if steps is None:
            self._held = keeper.zone().records()
            return "all"
        if not steps:
            return "same"
        for _, version, taken, put in steps:
            self._held = behind_change(self._held, taken, put, version)
        return "steps"
