"""Zones and records as texts, and back."""

from namehouse.errors import BadName, BadRecord, BadRow
from namehouse.figures import number_of
from namehouse.names import is_starless, name_of, text_of
from namehouse.records import is_record, record_rank
from namehouse.zones import Zone

_AHEAD = "origin "
_NO_KINDS = "none"


def record_text(record):
    """The record's row."""
    if not is_record(record):
        raise BadRecord("no record")
    name, kind, live, data = record
    return f"{text_of(name)} {live} {kind} {_data_text(kind, data)}"


def _data_text(kind, data):
    if kind == "text":
        return "\"" + data
    if kind in ("keeper", "other"):
        return text_of(data)
    if kind == "gap":
        name, kinds = data
        words = ",".join(kinds) or _NO_KINDS
        return f"{text_of(name)} {words}"
    if kind in ("top", "seal"):
        return " ".join([str(part) for part in data])
    return str(data)


def record_of(text):
    """The record whose row this is, or None."""
    if not isinstance(text, str):
        return None
    words = text.split(" ", 3)
    if len(words) != 4:
        return None
    name, live, kind, rest = words
    record = (_name_in(name), kind, number_of(live), _data_in(kind, rest))
    if not is_record(record):
        return None
    return record


def _data_in(kind, text):
    """The data of a kind that are written so; of what isn't written so, None or what is no data of that kind."""
    if kind == "text":
        return _text_in(text)
    if kind in ("keeper", "other"):
        return _name_in(text)
    words = text.split(" ")
    if kind == "top":
        return tuple([number_of(word) for word in words])
    if kind == "seal":
        return (words[0],) + tuple([number_of(word) for word in words[1:]])
    if kind == "gap":
        return _gap_in(words)
    return number_of(text)


def _text_in(text):
    if not text.startswith("\""):
        return None
    return text[1:]


def _name_in(text):
    try:
        return name_of(text)
    except BadName:
        return None


def _gap_in(words):
    if len(words) != 2:
        return None
    if words[1] == _NO_KINDS:
        return _name_in(words[0]), ()
    return _name_in(words[0]), tuple(words[1].split(","))


def zone_text(zone):
    """The zone's text."""
    rows = [record_text(record) for record in zone.records()]
    return "\n".join([_AHEAD + text_of(zone.origin)] + rows)


def read_zone(text):
    """The zone whose text this is."""
    if not isinstance(text, str):
        raise BadRow(1)
    rows = text.split("\n")
    origin = _origin_in(rows[0])
    if not is_starless(origin):
        raise BadRow(1)
    records = []
    for at, row in enumerate(rows[1:], 2):
        record = record_of(row)
        if record is None or (records and record_rank(record) <= record_rank(records[-1])):
            raise BadRow(at)
        records.append(record)
    return Zone(origin, records)


def _origin_in(row):
    if not row.startswith(_AHEAD):
        return None
    return _name_in(row[len(_AHEAD):])
