"""Records, their kinds and their order."""

from namehouse.bounds import within
from namehouse.errors import BadRecord
from namehouse.names import is_name, is_starless, name_rank
from namehouse.signs import is_sign

KINDS = ("addr", "text", "keeper", "other", "top", "key", "trust", "seal", "gap")
LONGEST_LIFE = 1000000
HIGHEST_VERSION = 4294967295
HIGHEST_KEY = 1000000000000
HIGHEST_SUM = 1000000006
MOST_TEXT = 30


def is_kind(thing):
    """Whether thing is one of the nine kinds."""
    return isinstance(thing, str) and thing in KINDS


def is_life(thing):
    """Whether thing is a number of turns that a record may live."""
    return within(thing, 0, LONGEST_LIFE)


def is_key(thing):
    """Whether thing is the number of a key."""
    return within(thing, 1, HIGHEST_KEY)


def is_addr(thing):
    """Whether thing is an addr."""
    return within(thing, 0, 2 ** 64 - 1)


def _is_text(thing):
    return isinstance(thing, str) and len(thing) <= MOST_TEXT and all([is_sign(sign) for sign in thing])


def _is_named(thing):
    return is_starless(thing)


def is_version(thing):
    """Whether thing is the version of a top."""
    return within(thing, 0, HIGHEST_VERSION)


def _is_top(thing):
    if not isinstance(thing, tuple) or len(thing) != 2:
        return False
    version, none = thing
    return is_version(version) and is_life(none)


def _is_seal(thing):
    if not isinstance(thing, tuple) or len(thing) != 3:
        return False
    kind, key, total = thing
    return is_kind(kind) and kind != "seal" and is_key(key) and within(total, 0, HIGHEST_SUM)


def _is_gap(thing):
    if not isinstance(thing, tuple) or len(thing) != 2:
        return False
    name, kinds = thing
    return is_name(name) and _are_rising_kinds(kinds)


def _are_rising_kinds(thing):
    if not isinstance(thing, tuple) or not all([is_kind(kind) for kind in thing]):
        return False
    return all([first < second for first, second in zip(thing, thing[1:])])


_DATA_TESTS = {
    "addr": is_addr, "text": _is_text, "keeper": _is_named, "other": _is_named, "top": _is_top,
    "key": is_key, "trust": is_key, "seal": _is_seal, "gap": _is_gap,
}


def is_record(thing):
    """Whether thing is a record: a tuple of a name, a kind, its live and data of that kind."""
    if not isinstance(thing, tuple) or len(thing) != 4:
        return False
    name, kind, live, data = thing
    return is_name(name) and is_kind(kind) and is_life(live) and is_data(kind, data)


def is_data(kind, thing):
    """Whether thing is data of this kind."""
    fits = _DATA_TESTS[kind]
    return fits(thing)


def are_records(thing):
    """Whether thing is a list of records."""
    return isinstance(thing, list) and all([is_record(record) for record in thing])


def are_one_set(thing):
    """Whether thing is a list of records of one name and kind, one at least."""
    return are_records(thing) and len({record[:2] for record in thing}) == 1


def are_unlike(things):
    """Whether no two of these are alike; they are records, or data, or such."""
    return len(set(things)) == len(things)


def ordered(records):
    """A new list of the records: by name, then kind, then data, then live."""
    if not are_records(records):
        raise BadRecord("no list of records")
    return sorted(records, key=record_rank)


def each_once(records):
    """A new list of the records, in order, each once."""
    found = []
    for record in ordered(records):
        if not found or found[-1] != record:
            found.append(record)
    return found


def record_rank(record):
    """What a record is ordered by."""
    name, kind, live, data = record
    return name_rank(name), kind, data_rank(kind, data), live


def data_rank(kind, data):
    """What data of a kind are ordered by."""
    if kind in ("keeper", "other"):
        return name_rank(data)
    if kind == "gap":
        # A name is ordered as names are wherever it stands in data.
        name, kinds = data
        return name_rank(name), kinds
    return data
