"""Changes of a zone's records: their form, what they wish and what comes of them."""

from namehouse.lookup import data_of, set_of
from namehouse.names import is_name
from namehouse.records import HIGHEST_VERSION, are_records, are_unlike, is_data, is_kind


def is_change(wishes, takes, puts):
    """Whether three things are the lists of a change."""
    return _are_wishes(wishes) and _are_moved(takes) and _are_moved(puts)


def _are_wishes(thing):
    return isinstance(thing, list) and all([_is_wish(wish) for wish in thing])


def _is_wish(thing):
    if not isinstance(thing, tuple) or not 3 <= len(thing) <= 4:
        return False
    word, name, kind = thing[:3]
    if not (isinstance(word, str) and is_name(name) and is_kind(kind)):
        return False
    if len(thing) == 3:
        return word in ("has", "lacks")
    return word == "just" and _are_data(kind, thing[3])


def _are_data(kind, thing):
    return isinstance(thing, list) and all([is_data(kind, data) for data in thing]) and are_unlike(thing)


def _are_moved(thing):
    """Whether thing is a list of what may be taken or put."""
    return are_records(thing) and all([record[1] != "top" for record in thing]) and are_unlike(thing)


def holds(wish, records):
    """Whether a wish holds of these records."""
    found = set_of(records, wish[1], wish[2])
    if wish[0] == "has":
        return found != []
    if wish[0] == "lacks":
        return found == []
    here = data_of(found)
    # Neither list has one twice, so as many of the same are the same.
    return len(here) == len(wish[3]) and all([data in here for data in wish[3]])


def can_be_done(records, takes, puts):
    """Whether each taken record stands, and no put one does behind the taking."""
    if not all([record in records for record in takes]):
        return False
    return not any([record in records and record not in takes for record in puts])


def behind_change(records, takes, puts, version):
    """A new list of what the records are behind a change to a version."""
    left = [_at_version(record, version) for record in records if record not in takes]
    return left + puts


def _at_version(record, version):
    name, kind, live, data = record
    if kind != "top":
        return record
    return name, kind, live, (version, data[1])


def next_version(version):
    """The version behind a version."""
    if version == HIGHEST_VERSION:
        return 0
    return version + 1
