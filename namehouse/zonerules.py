"""Which records make a zone."""

from namehouse.lookup import data_of, handed_keepers, of_kind, of_name, set_of
from namehouse.names import STAR, below, is_starless
from namehouse.records import are_records

MOST_RECORDS = 60
MOST_KEEPERS = 6


def makes_zone(origin, records):
    """Whether a zone comes of this origin and these records."""
    if not is_starless(origin) or not are_records(records) or len(records) > MOST_RECORDS:
        return False
    if not all([below(record[0], origin) for record in records]):
        return False
    if not (_has_a_head(origin, records) and _are_unlike(records) and _lives_agree(records)):
        return False
    return _others_stand_alone(records) and _hands_on_well(origin, records)


def _has_a_head(origin, records):
    tops = of_kind(records, "top")
    if len(tops) != 1 or tops[0][0] != origin:
        return False
    return 1 <= len(set_of(records, origin, "keeper")) <= MOST_KEEPERS


def _are_unlike(records):
    return len({(name, kind, data) for name, kind, live, data in records}) == len(records)


def _lives_agree(records):
    lives = {}
    for name, kind, live, data in records:
        if kind != "seal" and lives.setdefault((name, kind), live) != live:
            return False
    return True


def _others_stand_alone(records):
    for other in of_kind(records, "other"):
        kinds = [record[1] for record in of_name(records, other[0])]
        if [kind for kind in kinds if kind not in ("seal", "gap")] != ["other"]:
            return False
    return True


def _hands_on_well(origin, records):
    keepers = handed_keepers(records, origin)
    places = [keeper[0] for keeper in keepers]
    if any([STAR in place for place in places]):
        return False
    told = data_of(keepers)
    return all([_may_stand(record, place, told) for place in places for record in records])


def _may_stand(record, place, told):
    """Whether a record may stand beside a handed-on name; told are the names that the keepers of all such tell."""
    name, kind, live, data = record
    if name == place:
        return kind in ("keeper", "trust", "seal", "gap")
    if below(name, place):
        return kind == "addr" and name in told
    return True
