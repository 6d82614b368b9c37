"""Steps from the root down, sealed, and what they show."""

from namehouse.errors import BadRecord
from namehouse.gaps import spans
from namehouse.holding import Holding
from namehouse.lookup import data_of, handed_on_for, is_there, nearest_above, of_kind, set_of
from namehouse.names import below, is_starless, star_ahead
from namehouse.records import are_records, is_key, is_kind
from namehouse.wants import want_name

MOST_STEPS = 6
MOST_RECORDS = 60


def step_of(zone, name, kind):
    """A step of the zone's records, by which is shown what it tells of a name and a kind."""
    want_name(name)
    _want_sealed_kind(kind)
    records = zone.records()
    sets = _sets_of(zone.origin, records, name, kind)
    return zone.origin, [record for record in records if _set_shown_by(record) in sets]


def _want_sealed_kind(thing):
    if not is_kind(thing) or thing in ("seal", "gap"):
        raise BadRecord("no kind, or seal or gap")


def _set_shown_by(record):
    """The name and kind of the set that a record is of, or that it seals."""
    name, kind, _, data = record
    if kind == "seal":
        return name, data[0]
    return name, kind


def _sets_of(origin, records, name, kind):
    """The names and kinds of the sets of a step."""
    keys = [(origin, "key")]
    if not below(name, origin):
        return keys
    place = handed_on_for(records, origin, name, kind)
    if place is not None:
        return keys + [(place, "trust"), (place, "gap")]
    sets = keys + _sets_at(origin, records, name, kind)
    if not is_there(records, name):
        sets = sets + _sets_at(origin, records, star_ahead(nearest_above(records, name)), kind)
    return sets


def _sets_at(origin, records, name, kind):
    spanning = [(gap[0], "gap") for gap in of_kind(records, "gap") if spans(gap, name, origin)]
    return [(name, kind), (name, "other"), (name, "gap")] + spanning


def shown(trusted, steps, name, kind):
    """What steps show of a name and a kind, beginning with a trusted number; None where they show nothing."""
    if not is_key(trusted) or not _are_steps(steps):
        raise BadRecord("no number of a key, or no steps")
    want_name(name)
    _want_sealed_kind(kind)
    keys = _last_keys(trusted, steps)
    origin, records = steps[-1]
    if not keys or not below(name, origin):
        return None
    return Holding(origin, records, keys).shown(name, kind)


def _are_steps(thing):
    return isinstance(thing, list) and 1 <= len(thing) <= MOST_STEPS and all([_is_step(step) for step in thing])


def _is_step(thing):
    if not isinstance(thing, tuple) or len(thing) != 2:
        return False
    origin, records = thing
    return is_starless(origin) and are_records(records) and len(records) <= MOST_RECORDS


def _last_keys(trusted, steps):
    """The keys of the last step; [] where nothing is shown."""
    keys = []
    trusts = [trusted]
    ahead = None
    for origin, records in steps:
        if not _follows(origin, ahead):
            return []
        if ahead is not None:
            trusts = Holding(ahead[0], ahead[1], keys).numbers(origin, "trust")
        keys = _keys(origin, records, trusts)
        ahead = (origin, records)
    return keys


def _follows(origin, ahead):
    """Whether a step may have this origin behind the step ahead, None for the first one."""
    if ahead is None:
        return origin == ()
    return origin != ahead[0] and below(origin, ahead[0])


def _keys(origin, records, trusts):
    """The keys of a step: those at its origin, if one of them that is trusted seals them; else []."""
    numbers = data_of(set_of(records, origin, "key"))
    by = [number for number in numbers if number in trusts]
    return Holding(origin, records, by).numbers(origin, "key")
