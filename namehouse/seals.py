"""Sums of sets, seals, and zones that are sealed."""

from namehouse.errors import BadLetter, BadRecord, BadZone
from namehouse.letters import row_of
from namehouse.lookup import data_of, handed_keepers, of_name, top_of
from namehouse.names import below, ordered_names
from namehouse.records import are_one_set, are_unlike, is_key, is_record, ordered
from namehouse.zones import Zone

MODULUS = 1000000007
MOST_KEYS = 4


def sum_of(records, key):
    """The sum of a set by a key."""
    if not _can_be_sealed(records) or not is_key(key):
        raise BadRecord("no set that can be sealed, or no key")
    name, kind = records[0][:2]
    bare = [(name, kind, 0, data) for data in data_of(records)]
    total = key
    for number in row_of((0, "answer", name, kind, "good", ordered(bare), [], [])):
        total = (total * 257 + number + 1) % MODULUS
    return total


def _can_be_sealed(thing):
    return are_one_set(thing) and thing[0][1] != "seal" and are_unlike(data_of(thing))


def is_right(records, seal):
    """Whether a seal is right of a set."""
    if not is_record(seal) or seal[1] != "seal":
        raise BadRecord("no seal")
    kind, key, total = seal[3]
    # The sum is reckoned first: what is no set is refused, whatever the seal is of.
    return sum_of(records, key) == total and records[0][:2] == (seal[0], kind)


def sealed(zone, keys):
    """A zone of the same records, sealed by these keys."""
    if not isinstance(keys, list) or not all([is_key(key) for key in keys]):
        raise BadRecord("no list of keys")
    if not 1 <= len(keys) <= MOST_KEYS or not are_unlike(keys):
        raise BadRecord("too few or too many keys, or two alike")
    records = _with_keys(zone, keys)
    records = records + _gaps(zone.origin, records)
    try:
        return Zone(zone.origin, records + _seals(zone.origin, records, keys))
    except BadLetter:
        raise BadZone("a set without a letter's row") from None


def _with_keys(zone, keys):
    """The zone's records without its seals and gaps, and with these keys alone at its origin."""
    origin = zone.origin
    bare = [record for record in zone.records() if record[1] not in ("seal", "gap") and record[:2] != (origin, "key")]
    return bare + [(origin, "key", top_of(bare)[2], key) for key in keys]


def _handed_on(origin, records):
    """The handed-on names."""
    return [record[0] for record in handed_keepers(records, origin)]


def _is_under(name, places):
    """Whether a name is below one of these, and not it."""
    return any([name != place and below(name, place) for place in places])


def _gaps(origin, records):
    """The gaps of the zone's own names, each leading to the next one, the last to the origin."""
    places = _handed_on(origin, records)
    names = ordered_names(sorted({record[0] for record in records if not _is_under(record[0], places)}))
    live = top_of(records)[2]
    return [
        (name, "gap", live, (onward, _kinds_there(records, name)))
        for name, onward in zip(names, names[1:] + [origin])
    ]


def _kinds_there(records, name):
    """The kinds of a name's records, rising, those of its gap and its seals among them."""
    return tuple(sorted({kind for kind in [record[1] for record in of_name(records, name)] + ["gap", "seal"]}))


def _seals(origin, records, keys):
    """A seal by each key of each set that the zone tells of itself."""
    places = _handed_on(origin, records)
    sets = {}
    for record in records:
        name, kind = record[:2]
        if not _is_under(name, places) and not (kind == "keeper" and name in places):
            sets.setdefault((name, kind), []).append(record)
    return [_seal(found, key) for found in list(sets.values()) for key in keys]


def _seal(records, key):
    name, kind, live, _ = records[0]
    return name, "seal", live, (kind, key, sum_of(records, key))
