"""Sealed zones and steps for the tests."""

from namehouse.seals import sealed, sum_of
from namehouse.shown import step_of
from namehouse.zones import Zone
from tests.zonethings import at, rec


def sealed_at(origin, keys, *records):
    """A zone of a top, a keeper and these records, sealed."""
    head = [rec(origin, "top", (1, 20), 60), rec(origin, "keeper", "ns", 60)]
    return sealed(Zone(at(origin), head + list(records)), keys)


def seal(records, key, live=5):
    """A right seal of a set."""
    return records[0][0], "seal", live, (records[0][1], key, sum_of(records, key))


def with_seals(key, *sets):
    """The records of these sets, each with a right seal by the key."""
    return [record for records in sets for record in list(records) + [seal(records, key)]]


def root_step(*sets, key=3):
    """A step at () of a key and these sets, all sealed by it."""
    return (), with_seals(key, [rec("", "key", key)], *sets)


def chain(zones, name, kind):
    """The steps of zones that hand on to one another, for a name and a kind."""
    return [step_of(zone, name, kind) for zone in zones]
