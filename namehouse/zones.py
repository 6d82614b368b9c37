"""Zones: an origin and the records of names below it."""

from namehouse.errors import BadZone
from namehouse.lookup import is_there
from namehouse.names import below
from namehouse.records import ordered
from namehouse.zonerules import makes_zone


class Zone:
    """A zone, which nothing changes; its field origin is a name without a star."""

    def __init__(self, origin, records):
        if not makes_zone(origin, records):
            raise BadZone("no zone comes of this")
        self.origin = origin
        self._records = ordered(records)

    def records(self):
        """A list of its records, in order."""
        return list(self._records)

    def has(self, name):
        """Whether a name is below the origin and there."""
        return below(name, self.origin) and is_there(self._records, name)
